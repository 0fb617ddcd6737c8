/- vellumlaw04.lives. Joins of inserts, purely; Join at all operations. What vellumref04.copied and vellumref04.Join answer. Rows of operations as they lie in memory. The mark behind a list's end. What vellumspare.Copy makes: operations with spare room; what writing over them leaves. vellumspare.Attrs: a copy with a mark behind its end. vellumspare.Copy: operations as new memory, with spare room. vellumref04.SameOps and vellumspare.Kept at operations that are the same. vellumspare.Spoil: writes over operations and their lists, and nothing else. Of all operations vellumlaw04.ContentJoins answers true: the walk. The errors' numbers: what vellumnum.list and vellumnum.Num answer where all nineteen sentinels lie as laid. Of all operations vellumlaw04.ContentJoins answers true. -/
import Derived.Test.YtecmdlecfddeeaaDoorCg
import Derived.Test.YtecmdlecfddeeaaDoorRo
import Derived.Deep.RegionHeld3
import Derived.Test.YtecmdlecfddeeaaDoorCc
import Derived.Maps.AppendAt
import Derived.Test.YtecmdlecfddeeaaDoorPa
import Derived.Deep.DeepCutAuto
import Derived.Test.YtecmdlecfddeeaaDoorSw
import Derived.Test.YtecmdlecfddeeaaDoorEr

/- vellumlaw04.lives. -/
namespace Go.Proofs.YtecmdlecfddeeaaDoor
open Go Go.RowKit Go.Lib
set_option linter.unusedVariables false

abbrev tA : ByteArray := ⟨#[97, 195, 169, 226, 130, 172]⟩
abbrev tH : ByteArray := ⟨#[97, 195, 169]⟩
abbrev tR : ByteArray := ⟨#[226, 130, 172]⟩
abbrev tX : ByteArray := ⟨#[120]⟩
abbrev tB : ByteArray := ⟨#[98, 10]⟩
abbrev txO (t : ByteArray) : Op5 := ⟨1, t, z0, 0, []⟩
abbrev exO (t : ByteArray) : Op5 := ⟨2, t, z0, 0, []⟩
theorem ins_tx (t : ByteArray) (h1 : t.toList.isEmpty = false) (h2 : brk t.data.toList = t.size) : Ins (txO t) := ⟨Or.inl ⟨rfl, rfl⟩, h1, rfl, h2, chk_z0, rfl⟩
theorem ins_ex (t : ByteArray) (h1 : t.toList.isEmpty = false) (h2 : brk t.data.toList = t.size) (h3 : t.size ≤ 64) : Ins (exO t) := ⟨Or.inr ⟨rfl, h3⟩, h1, rfl, h2, chk_z0, rfl⟩
theorem fit_tx (k : Int) (t : ByteArray) (h : t.size ≤ 8388608) : Fit ⟨k, t, z0, 0, []⟩ := ⟨h, by show (0 : Nat) ≤ 1048576; decide, fun q hq => (by cases hq), by show (0 : Nat) ≤ 1048576; decide⟩
theorem iA : Ins (txO tA) := ins_tx _ (by rw [toList_data]; rfl) (by kernel_rfl)
theorem iH : Ins (txO tH) := ins_tx _ (by rw [toList_data]; rfl) (by kernel_rfl)
theorem iR : Ins (txO tR) := ins_tx _ (by rw [toList_data]; rfl) (by kernel_rfl)
theorem iB : Ins (txO tB) := ins_tx _ (by rw [toList_data]; rfl) (by kernel_rfl)
theorem iX : Ins (exO tX) := ins_ex _ (by rw [toList_data]; rfl) (by kernel_rfl) (by decide)
theorem scsA : scs tA.data.toList = [97, 233, 8364] := by kernel_rfl
theorem scsB : scs tB.data.toList = [98, 10] := by kernel_rfl
theorem posA : pos (scs tA.data.toList) 2 = 3 := by rw [scsA]; kernel_rfl
theorem extH : tA.extract 0 3 = tH := by kernel_rfl
theorem extR : tA.extract 3 tA.size = tR := by kernel_rfl
theorem catA : tH ++ tR = tA := by kernel_rfl
theorem newlB : newlO (txO tB) = 1 := by kernel_rfl
theorem lenX : lenO (exO tX) = 1 := rfl
theorem RN.val0 {w : World} {v : Value} (h : RN w v []) : ∃ p c, v = .slice p 0 c := by
  obtain ⟨p, c, h, _⟩ := h.row.val
  exact ⟨p, c, h⟩

set_option maxHeartbeats 4000000 in
set_option maxRecDepth 100000 in
theorem lives_any4 {I : List Nat} {a : Nat → Addr} (w : World) (hI : ∀ i ∈ IC, i ∈ I) (hS : Std I a w) :
    Calls Tryd.prog 9 #[] w fun e w' => e = .returned (.bool true) ∧ Below w.heap.size w w' := by
  have cC : Calls Tryd.prog 23 #[opV (txO tA) nilS, .int .i64 2] w fun r w' => ∃ s1 s2, r = .returned (.tuple #[opV (txO tH) s1, opV (txO tR) s2, .nilIface]) ∧ RN w' s1 [] ∧ RN w' s2 [] ∧ Below w.heap.size w w' := by
    have := cutO_ok (txO tA) nilS 2 w hI hS (RN.nil _) (fit_tx _ _ (by decide)) iA rfl (by decide) (by rw [scsA]; decide)
    have e1 : (txO tA).t.extract 0 (pos (scs (txO tA).t.data.toList) 2) = tH := by show tA.extract 0 (pos (scs tA.data.toList) 2) = tH; rw [posA, extH]
    have e2 : (txO tA).t.extract (pos (scs (txO tA).t.data.toList) 2) (txO tA).t.size = tR := by show tA.extract (pos (scs tA.data.toList) 2) tA.size = tR; rw [posA, extR]
    rw [e1, e2] at this
    exact this.mono fun r w' ⟨s1, s2, h1, h2, h3, _, h4⟩ => ⟨s1, s2, h1, own_RN h2, own_RN h3, h4⟩
  have cJ : Hid (∀ W s1 s2, Below w.heap.size w W → RN W s1 [] → RN W s2 [] → Calls Tryd.prog 26 #[opV (txO tH) s1, opV (txO tR) s2] W fun r w' => ∃ s1, r = .returned (.tuple #[opV (txO tA) s1, .bool true, .nilIface]) ∧ RN w' s1 [] ∧ Below W.heap.size W w') := fun W s1 s2 hW h1 h2 => by
    have := joinO_ok (txO tH) (txO tR) s1 s2 W hI (hS.below hW) h1 h2 (fit_tx _ _ (by decide)) (fit_tx _ _ (by decide)) iH iR rfl rfl rfl
    have e1 : (txO tH).t ++ (txO tR).t = tA := catA
    rw [e1] at this
    exact this.mono fun r w' ⟨s1, h1, h2, h4⟩ => ⟨s1, h1, own_RN h2, h4⟩
  have cL : Hid (∀ W, Below w.heap.size w W → Calls Tryd.prog 12 #[opV (exO tX) nilS] W fun r w' => r = .returned (.tuple #[.int .i64 1, .nilIface]) ∧ Below W.heap.size W w') := fun W hW => length_ok (exO tX) nilS W hI (hS.below hW) (RN.nil _) (fit_tx _ _ (by decide)) iX
  have cE : Hid (∀ W, Below w.heap.size w W → Calls Tryd.prog 13 #[opV (txO tB) nilS] W fun r w' => ∃ v', r = .returned (.tuple #[v', .nilIface]) ∧ (∃ g c, v' = .slice (some ⟨g, 0, none⟩) 2 c ∧ w'.cell? ⟨g, 6, none⟩ = some (.int .i32 10) ∧ 2 ≤ c) ∧ Below W.heap.size W w') := fun W hW => by
    refine (cellsO_any (txO tB) nilS W hI (hS.below hW) (RN.nil _) (fit_tx _ _ (by decide)) iB).mono fun r w' ⟨v', D, h1, h2, h3, h4⟩ => ⟨v', h1, ?_, h4⟩
    have hc : cellsOf (txO tB) = [(98, ⟨#[]⟩, z0, []), (10, ⟨#[]⟩, z0, [])] := by
      show mkC [] (scs tB.data.toList) = _
      rw [scsB]; rfl
    rw [hc] at h3
    have hl := forall2_len h3
    obtain ⟨d, hd⟩ : ∃ d, D[1]? = some d := ⟨_, List.getElem?_eq_getElem (by rw [hl]; decide)⟩
    obtain ⟨y, hy, hr⟩ := forall2_get h3 1 d hd
    obtain rfl : ((10, ⟨#[]⟩, z0, []) : C5) = y := by simpa using hy
    have hx := (cellsC_get D 1 d hd).1
    rw [hr.1] at hx
    rcases h2.2 with ⟨_, h0⟩ | ⟨g, cap, cur, rfl, h3', h4', h5, h6⟩
    · rw [hl] at h0; simp at h0
    · have := h2.cells (g := g) rfl 6 _ hx
      rw [Addr.add_lit] at this
      have hl2 : D.length = 2 := hl
      rw [hl2] at h5 ⊢
      exact ⟨g, cap, rfl, this, h5⟩
  have cN : Hid (∀ W, Below w.heap.size w W → Calls Tryd.prog 14 #[opV (txO tB) nilS] W fun r w' => r = .returned (.tuple #[.int .i64 1, .nilIface]) ∧ Below W.heap.size W w') := fun W hW => by
    have := newl_any (txO tB) nilS W hI (hS.below hW) (RN.nil _) (fit_tx _ _ (by decide)) iB
    rw [newlB] at this
    exact this
  have cO : Hid (∀ W s1, Below w.heap.size w W → RN W s1 [] → Calls Tryd.prog 15 #[opV (txO tH) s1] W fun r w' => ∃ v, r = .returned (.tuple #[.iface 67 v, .nilIface]) ∧ Below W.heap.size W w') := fun W s1 hW h1 => by
    refine (op_ok (txO tH) s1 W hI (hS.below hW) h1 (fit_tx _ _ (by decide)) iH).mono fun r w' ⟨v', h2, _, h4⟩ => ⟨.agg #[v', .string tH, .int .i64 (scs tH.data.toList).length], h2.trans ?_, h4⟩
    show Ending.returned (.tuple #[pieceV (txO tH) v', .nilIface]) = _
    unfold pieceV
    rw [if_pos rfl]
  have cS : Hid (∀ W s1, RN W s1 [] → Calls Tryd.prog 28 #[opV (txO tH) s1, opV (txO tH) s1] W fun r w' => r = .returned (.bool true) ∧ Below W.heap.size W w') := fun W s1 h1 => by
    have := sameC_any (txO tH) (txO tH) s1 s1 W h1.row h1.row (by decide) (by decide)
    rwa [decide_eq_true rfl] at this
  clear hS hI
  go_enter Tryd.func9, Tryd.ntmps9
  go_wp2_with fail
  refine cC.mono ?_; rintro r w1 ⟨s1, s2, rfl, r1, r2, b1⟩
  obtain ⟨p1, c1, rfl⟩ := r1.val0
  obtain ⟨p2, c2, rfl⟩ := r2.val0
  clear cC
  have ba : Below w1.heap.size w1 ((w1.alloc (.cells (opC (txO tH) (.slice p1 0 c1)) 26)).alloc (.cells (opC (txO tR) (.slice p2 0 c2)) 26)) := ((Below.refl _ _).alloc (Nat.le_refl _) _).alloc (by simp) _
  have X1 : BoxO ((w1.alloc (.cells (opC (txO tH) (.slice p1 0 c1)) 26)).alloc (.cells (opC (txO tR) (.slice p2 0 c2)) 26)) w1.heap.size (txO tH) (.slice p1 0 c1) := (BoxO.new w1 _ _).below ((Below.refl _ _).alloc (Nat.le_refl _) _)
  have X2 : BoxO ((w1.alloc (.cells (opC (txO tH) (.slice p1 0 c1)) 26)).alloc (.cells (opC (txO tR) (.slice p2 0 c2)) 26)) (w1.heap.size + 1) (txO tR) (.slice p2 0 c2) := by
    have := BoxO.new (w1.alloc (.cells (opC (txO tH) (.slice p1 0 c1)) 26)) (txO tR) (.slice p2 0 c2)
    rwa [World.size_alloc] at this
  have cj := cJ.out _ _ _ (b1.trans (ba.mono b1.size)) (r1.below ba) (r2.below ba)
  have b2 := b1.trans (ba.mono b1.size)
  have R1 := r1.below ba
  clear b1 ba r1 r2 cJ
  go_wp2_with fail
  refine cj.mono ?_; rintro r w2 ⟨s3, rfl, r3, hb3⟩
  obtain ⟨p3, c3, rfl⟩ := r3.val0
  have b3 := b2.trans (hb3.mono b2.size)
  have Y1 := X1.below hb3
  have Y2 := X2.below hb3
  have R2 := R1.below hb3
  have ba : Below w2.heap.size w2 (w2.alloc (.cells (opC (txO tA) (.slice p3 0 c3)) 26)) := (Below.refl _ _).alloc (Nat.le_refl _) _
  have b4 := b3.trans (ba.mono b3.size)
  have Z1 := Y1.below ba
  have Z2 := Y2.below ba
  have Z3 : BoxO (w2.alloc (.cells (opC (txO tA) (.slice p3 0 c3)) 26)) w2.heap.size (txO tA) (.slice p3 0 c3) := BoxO.new w2 _ _
  have R3 := R2.below ba
  have cl := cL.out _ b4
  clear X1 X2 R1 R2 Y1 Y2 cj hb3 b2 b3 cL ba r3
  go_wp2_with fail
  refine cl.mono ?_; rintro r w5 ⟨rfl, hb5⟩
  have b5 := b4.trans (hb5.mono b4.size)
  have Y1 := Z1.below hb5
  have Y2 := Z2.below hb5
  have Y3 := Z3.below hb5
  have R5 := R3.below hb5
  clear Z1 Z2 Z3 R3 cl hb5 b4
  go_wp2_with fail
  refine (cE.out _ b5).mono ?_; rintro r w6 ⟨v6, rfl, ⟨g6, c6, rfl, e6, h6⟩, hb6⟩
  have b6 := b5.trans (hb6.mono b5.size)
  have Z1 := Y1.below hb6
  have Z2 := Y2.below hb6
  have Z3 := Y3.below hb6
  have R6 := R5.below hb6
  clear Y1 Y2 Y3 R5 hb6 b5 cE
  go_wp2_with fail
  refine (cN.out _ b6).mono ?_; rintro r w7 ⟨rfl, hb7⟩
  have b7 := b6.trans (hb7.mono b6.size)
  have Y1 := Z1.below hb7
  have Y2 := Z2.below hb7
  have Y3 := Z3.below hb7
  have R7 := R6.below hb7
  have e7 := (hb7.cell (lt_of_cell e6)).trans e6
  obtain ⟨d0, d1, d2, d3, d4, d5, d6⟩ := Y1
  simp only [z0] at d0 d1 d2 d3 d4 d5 d6
  have co := cO.out _ _ b7 R7
  have HY : Hid (BoxO w7 w1.heap.size (txO tH) (.slice p1 0 c1)) := Z1.below hb7
  clear Z1 Z2 Z3 R6 hb7 b6 cN e6
  go_wp2_with fail
  refine co.mono ?_; rintro r w8 ⟨v8, rfl, hb8⟩
  have b8 := b7.trans (hb8.mono b7.size)
  obtain ⟨d0, d1, d2, d3, d4, d5, d6⟩ := HY.out.below hb8
  have f1 := (Y2.below hb8).d1
  have g1 := (Y3.below hb8).d1
  simp only [z0] at d0 d1 d2 d3 d4 d5 d6 f1 g1
  have cs := cS.out _ _ (R7.below hb8)
  have e8 := (hb8.cell (lt_of_cell e7)).trans e7
  clear Y2 Y3 R7 hb8 b7 cO e7 co HY
  have q1 := beq_key (x := tH) (y := tH) true (decide_eq_true rfl)
  have q2 := beq_key (x := tR) (y := tR) true (decide_eq_true rfl)
  have q3 := beq_key (x := tA) (y := tA) true (decide_eq_true rfl)
  go_wp2_with fail
  refine cs.mono ?_; rintro r w9 ⟨rfl, hb9⟩
  have b9 := b8.trans (hb9.mono b8.size)
  go_wp2
  go_ret
  exact ⟨rfl, b9⟩
end Go.Proofs.YtecmdlecfddeeaaDoor

/- Joins of inserts, purely; Join at all operations. -/
namespace Go.Proofs.YtecmdlecfddeeaaDoor
open Go Go.RowKit Go.Lib
set_option linter.unusedVariables false

theorem chkP_le (p : P3) : chkP p ≤ 10 := chk_le _ _ _
theorem listE_le' (nulls : Bool) : ∀ (L : List A2) (pv : Option ByteArray), listE nulls pv L ≤ 10
  | [], _ => Nat.zero_le _
  | q :: r, pv => by
    have hp : pairE q ≤ 10 := by
      unfold pairE
      split
      · omega
      · split
        · omega
        · exact chk_le _ _ _
    rw [listE]
    split
    · split
      · omega
      · split
        · exact listE_le' nulls r _
        · omega
    · exact hp
theorem insE_le19 (o : Op5) : insE o ≤ 19 := by
  have := insE_le o (fun L => listE_le' false L none)
  omega
theorem joinE_le (o o' : Op5) : joinE o o' ≤ 19 := by
  unfold joinE
  have := insE_le19 o
  have := insE_le19 o'
  split <;> omega
def jB (o o' : Op5) : Bool := decide (joinE o o' = 0) && joinB o o'
def jR (o o' : Op5) : Op5 := if jB o o' = true then joinO o o' else opZ
theorem jB_yes {o o' : Op5} (h : jB o o' = true) : Ins o ∧ Ins o' ∧ o.k = 1 ∧ o'.k = 1 ∧ o.A = o'.A := by
  unfold jB joinB joinE at h
  simp only [Bool.and_eq_true, decide_eq_true_eq] at h
  obtain ⟨h1, h2, h3, h4⟩ := h
  by_cases hi : insE o = 0
  · rw [if_pos hi] at h1
    exact ⟨ins_of hi, ins_of h1, h2, h3, h4⟩
  · rw [if_neg hi] at h1
    exact absurd h1 hi
theorem jB_of {o o' : Op5} (h : Ins o) (h' : Ins o') (hk : o.k = 1) (hk' : o'.k = 1) (hA : o.A = o'.A) : jB o o' = true := by
  unfold jB joinB joinE
  simp [h.zero, h'.zero, hk, hk', hA]
theorem jB_no {o o' : Op5} (h : ¬ (o.k = 1 ∧ o'.k = 1 ∧ o.A = o'.A)) : jB o o' = false := by
  cases hj : jB o o'
  · rfl
  · obtain ⟨_, _, h1, h2, h3⟩ := jB_yes hj
    exact absurd ⟨h1, h2, h3⟩ h
theorem jB_err {o o' : Op5} {e : Nat} (h : joinE o o' = e + 1) : jB o o' = false := by
  unfold jB
  simp [h]
theorem isEmp_size {t : ByteArray} (h : t.toList.isEmpty = false) : 0 < t.size := by
  rcases Nat.eq_zero_or_pos t.size with h0 | h0
  · exfalso
    have : t.toList = [] := by rw [toList_data]; exact List.eq_nil_of_length_eq_zero (by rw [size_toList]; exact h0)
    rw [this] at h; cases h
  · exact h0
theorem size_isEmp {t : ByteArray} (h : 0 < t.size) : t.toList.isEmpty = false := by
  cases he : t.toList.isEmpty
  · rfl
  · rw [emp_iff] at he
    subst he
    exact absurd h (by decide)
theorem cat_list (a b : ByteArray) : (a ++ b).data.toList = a.data.toList ++ b.data.toList := by rw [ByteArray.data_append, Array.toList_append]
theorem scs_cat {a b : List UInt8} (ha : brk a = a.length) (hb : brk b = b.length) : scs (a ++ b) = scs a ++ scs b ∧ brk (a ++ b) = (a ++ b).length := by
  have ea := valid_of_brk ha
  have eb := valid_of_brk hb
  obtain ⟨_, h1, _, _⟩ := text_cases a
  obtain ⟨_, h2, _, _⟩ := text_cases b
  have h12 : ∀ r ∈ scs a ++ scs b, scal r := fun r hr => by
    rcases List.mem_append.1 hr with h | h
    · exact h1 r h
    · exact h2 r h
  have e : a ++ b = encs (scs a ++ scs b) ++ [] := by
    rw [List.append_nil, encs_append, ← ea, ← eb]
  refine ⟨?_, ?_⟩
  · conv => lhs; rw [e]
    exact scs_eq h12 (Or.inl rfl)
  · conv => lhs; rw [e]
    rw [brk_eq h12 (Or.inl rfl), encs_append, ← ea, ← eb]
theorem ins_join {o o' : Op5} (h : Ins o) (h' : Ins o') : Ins (joinO o o') := by
  have hs : (o.t ++ o'.t).size = o.t.size + o'.t.size := ByteArray.size_append
  refine ⟨Or.inl ⟨rfl, rfl⟩, size_isEmp ?_, rfl, ?_, chk_z0, h.set⟩
  · have := isEmp_size h.full
    show 0 < (o.t ++ o'.t).size
    omega
  · show brk (o.t ++ o'.t).data.toList = (o.t ++ o'.t).size
    rw [cat_list, (scs_cat (by rw [h.utf, size_toList]) (by rw [h'.utf, size_toList])).2, List.length_append, size_toList, size_toList, hs]
theorem cells_join {o o' : Op5} (h : Ins o) (h' : Ins o') (hk : o.k = 1) (hk' : o'.k = 1) (hA : o.A = o'.A) : cellsOf (joinO o o') = cellsOf o ++ cellsOf o' := by
  unfold cellsOf
  rw [if_pos (show (joinO o o').k = 1 from rfl), if_pos hk, if_pos hk', ← hA]
  show mkC o.A (scs (o.t ++ o'.t).data.toList) = _
  rw [cat_list, (scs_cat (by rw [h.utf, size_toList]) (by rw [h'.utf, size_toList])).1]
  simp [mkC]
theorem join_assoc (x y z : Op5) : joinO (joinO x y) z = joinO x (joinO y z) := by
  unfold joinO
  simp only [ByteArray.append_assoc]
theorem fit_join {o o' : Op5} (h : Fit o) (hs : o.t.size + o'.t.size ≤ 8388608) : Fit (joinO o o') := ⟨by show (o.t ++ o'.t).size ≤ _; rw [ByteArray.size_append]; exact hs, by show (0 : Nat) ≤ 1048576; decide, h.A, h.n⟩
theorem fit_Z : Fit opZ := ⟨by show (0 : Nat) ≤ 8388608; decide, by show (0 : Nat) ≤ 1048576; decide, fun q hq => (by cases hq), by show (0 : Nat) ≤ 1048576; decide⟩

/-- Join at all operations. -/
theorem join_any {I : List Nat} {a : Nat → Addr} (o o' : Op5) (s s' : Value) (w : World) (hI : ∀ i ∈ IC, i ∈ I) (hS : Std I a w) (hR : RN w s o.A) (hR' : RN w s' o'.A) (hF : Fit o) (hF' : Fit o') :
    Calls Tryd.prog 26 #[opV o s, opV o' s'] w fun r w' => ∃ s1, r = .returned (.tuple #[opV (jR o o') s1, .bool (jB o o'), errOf a (joinE o o')]) ∧ OwnA w' w.heap.size s1 (jR o o').A ∧ Below w.heap.size w w' := by
  have oN : ∀ W, OwnA W w.heap.size nilS [] := fun W => ⟨rfl, Or.inl ⟨rfl, rfl⟩⟩
  have no : ∀ E, E = joinE o o' → jB o o' = false → Calls Tryd.prog 26 #[opV o s, opV o' s'] w (fun r w' => r = .returned (.tuple #[opV opZ nilS, .bool false, errOf a E]) ∧ Below w.heap.size w w') → Calls Tryd.prog 26 #[opV o s, opV o' s'] w fun r w' => ∃ s1, r = .returned (.tuple #[opV (jR o o') s1, .bool (jB o o'), errOf a (joinE o o')]) ∧ OwnA w' w.heap.size s1 (jR o o').A ∧ Below w.heap.size w w' := fun E hE hB c => by
    have hr : jR o o' = opZ := by unfold jR; rw [if_neg (by rw [hB]; exact Bool.false_ne_true)]
    rw [hr, hB, ← hE]
    exact c.mono fun r w' ⟨h1, h2⟩ => ⟨nilS, h1, oN _, h2⟩
  cases h1 : insE o with
  | succ e =>
    have hj : joinE o o' = e + 1 := by unfold joinE; rw [if_neg (by omega), h1]
    exact no (e + 1) hj.symm (jB_err hj) (joinO_no1 o o' s s' w hI hS hR hR' hF hF' e h1)
  | zero =>
    have hO := ins_of h1
    cases h2 : insE o' with
    | succ e =>
      have hj : joinE o o' = e + 1 := by unfold joinE; rw [if_pos h1, h2]
      exact no (e + 1) hj.symm (jB_err hj) (joinO_no2 o o' s s' w hI hS hR hR' hF hF' hO e h2)
    | zero =>
      have hO' := ins_of h2
      have hj : joinE o o' = 0 := by unfold joinE; rw [if_pos h1, h2]
      rcases hO.kind with ⟨hk, _⟩ | ⟨hk, _⟩
      · rcases hO'.kind with ⟨hk', _⟩ | ⟨hk', _⟩
        · by_cases hA : o.A = o'.A
          · have hB := jB_of hO hO' hk hk' hA
            have hr : jR o o' = joinO o o' := by unfold jR; rw [if_pos hB]
            rw [hr, hB, hj]
            exact joinO_ok o o' s s' w hI hS hR hR' hF hF' hO hO' hk hk' hA
          · exact no 0 hj.symm (jB_no fun h => hA h.2.2) (joinO_ne o o' s s' w hI hS hR hR' hF hF' hO hO' hk hk' hA)
        · exact no 0 hj.symm (jB_no fun h => by have := h.2.1; omega) (joinO_te o o' s s' w hI hS hR hR' hF hF' hO hO' hk hk')
      · rcases hO'.kind with ⟨hk', _⟩ | ⟨hk', _⟩
        · exact no 0 hj.symm (jB_no fun h => by have := h.1; omega) (joinO_et o o' s s' w hI hS hR hR' hF hF' hO hO' hk hk')
        · exact no 0 hj.symm (jB_no fun h => by have := h.1; omega) (joinO_ee o o' s s' w hI hS hR hR' hF hF' hO hO' hk hk')
end Go.Proofs.YtecmdlecfddeeaaDoor

/- What vellumref04.copied and vellumref04.Join answer. -/
namespace Go.Proofs.YtecmdlecfddeeaaDoor
open Go Go.RowKit Go.Lib
set_option linter.unusedVariables false

set_option maxHeartbeats 400000 in
theorem copied_any (v : Value) (A : List A2) (w : World) (hA : RN w v A) (hl : A.length ≤ 2097152) :
    Calls Tryd.prog 45 #[v] w fun r w' => ∃ v', r = .returned v' ∧ OwnA w' w.heap.size v' A ∧ Below w.heap.size w w' := by
  have b0 := (Below.refl w.heap.size w).alloc (Nat.le_refl _) (.cells #[] 49)
  have HA : Hid (RN (w.alloc (.cells #[] 49)) v A) := hA.below b0
  have oE := own_empty' w w.heap.size (Nat.le_refl _)
  clear hA
  go_enter Tryd.func45, Tryd.ntmps45
  go_wp2_with (at_builtin; refine wpList_append_row rfl (.tmp 3) (.tmp 4) rfl w.heap.size (.slice (some ⟨w.heap.size, 0, none⟩) 0 0) [] rfl oE v A rfl HA.out.row HA.out.nz (by simpa using hl) b0.size ?_; intro v9 w9 own9 gr9; have b9 := b0.grown gr9 b0.size (fun j hj => by simp only [Value.ownBlock, Option.some.injEq] at hj; omega))
  go_ret
  exact ⟨_, rfl, own9, b9⟩

set_option maxHeartbeats 2000000 in
set_option maxRecDepth 100000 in
theorem refJoin_no1 {I : List Nat} {a : Nat → Addr} (o o' : Op5) (s s' : Value) (w : World) (hS : Std I a w) (hR : RN w s o.A) (hF : Fit o) (he : insE o ≠ 0) :
    Calls Tryd.prog 27 #[opV o s, opV o' s'] w fun r w' => r = .returned (.tuple #[opV opZ nilS, .bool false, .int .i64 (insE o)]) ∧ Below w.heap.size w w' := by
  have b0 := bxJ_below w o s o' s'
  have c1 := ref_ins o s _ (hS.below b0) (hR.below b0) hF
  have Z2 := bxJ_2 w o s o' s'
  obtain ⟨e, hE⟩ : ∃ e, insE o = e := ⟨_, rfl⟩
  rw [hE] at c1 he ⊢
  have heI : ((e : Int) == 0) = false := by simp; omega
  have heJ : ((e : Int) != 0) = true := by simp; omega
  clear hR hS hF hE
  obtain ⟨k, t, ⟨x, n, u⟩, c, A⟩ := o
  obtain ⟨k', t', ⟨x', n', u'⟩, c', A'⟩ := o'
  go_enter Tryd.func27, Tryd.ntmps27
  go_wp2_with fail
  refine c1.mono ?_; rintro r w2 ⟨rfl, hb2⟩
  have b2 := b0.trans (hb2.mono b0.size)
  obtain ⟨q0, q1, q2, q3, q4, q5, q6⟩ := Z2.1.below hb2
  obtain ⟨h0, h1, h2, h3, h4, h5, h6⟩ := Z2.2.below Z2.1 hb2
  simp only [z0] at q0 q1 q2 q3 q4 q5 q6
  clear c1 b0 hb2 Z2
  go_wp2
  exact bodyPost_ret (v := .tuple #[opV opZ nilS, .bool false, .int .i64 e]) (by simp [results, Tryd.results27, go_sem, z0, q0, q1, q2, q3, q4, q5, q6]) rfl ⟨rfl, below_set7 b2 (by omega) _ _ _ _ _ _ _⟩

set_option maxHeartbeats 2000000 in
set_option maxRecDepth 100000 in
theorem refJoin_no2 {I : List Nat} {a : Nat → Addr} (o o' : Op5) (s s' : Value) (w : World) (hS : Std I a w) (hR : RN w s o.A) (hR' : RN w s' o'.A) (hF : Fit o) (hF' : Fit o') (h0 : insE o = 0) (he : insE o' ≠ 0) :
    Calls Tryd.prog 27 #[opV o s, opV o' s'] w fun r w' => r = .returned (.tuple #[opV opZ nilS, .bool false, .int .i64 (insE o')]) ∧ Below w.heap.size w w' := by
  have b0 := bxJ_below w o s o' s'
  have c1 := ref_ins o s _ (hS.below b0) (hR.below b0) hF
  have c2 := fun W (hW : Below w.heap.size w W) => ref_ins o' s' W (hS.below hW) (hR'.below hW) hF'
  have Z1 := bxJ_1 w o s o' s'
  have Z2 := bxJ_2 w o s o' s'
  obtain ⟨e, hE⟩ : ∃ e, insE o' = e := ⟨_, rfl⟩
  rw [h0] at c1
  rw [hE] at he ⊢
  simp only [hE] at c2
  have heI : ((e : Int) == 0) = false := by simp; omega
  have heJ : ((e : Int) != 0) = true := by simp; omega
  clear hR hR' hS hF hF' hE h0
  obtain ⟨k, t, ⟨x, n, u⟩, c, A⟩ := o
  obtain ⟨k', t', ⟨x', n', u'⟩, c', A'⟩ := o'
  go_enter Tryd.func27, Tryd.ntmps27
  go_wp2_with fail
  refine c1.mono ?_; rintro r w2 ⟨rfl, hb2⟩
  have b2 := b0.trans (hb2.mono b0.size)
  obtain ⟨d0, d1, d2, d3, d4, d5, d6⟩ := Z1.below hb2
  have Y2 := Z2.1.below hb2
  have X2 := Z2.2.below Z2.1 hb2
  simp only at d0 d1 d2 d3 d4 d5
  clear c1 b0 hb2 Z2 Z1
  go_wp2_with fail
  refine (c2 _ b2).mono ?_; rintro r w3 ⟨rfl, hb3⟩
  have b3 := b2.trans (hb3.mono b2.size)
  obtain ⟨q0, q1, q2, q3, q4, q5, q6⟩ := Y2.below hb3
  obtain ⟨h0, h1, h2, h3, h4, h5, h6⟩ := X2.below Y2 hb3
  simp only [z0] at q0 q1 q2 q3 q4 q5 q6
  clear c2 b2 hb3 Y2 X2 d0 d1 d2 d3 d4 d5 d6
  go_wp2
  exact bodyPost_ret (v := .tuple #[opV opZ nilS, .bool false, .int .i64 e]) (by simp [results, Tryd.results27, go_sem, z0, q0, q1, q2, q3, q4, q5, q6]) rfl ⟨rfl, below_set7 b3 (by omega) _ _ _ _ _ _ _⟩

set_option maxHeartbeats 2000000 in
set_option maxRecDepth 100000 in
theorem refJoin_ne {I : List Nat} {a : Nat → Addr} (o o' : Op5) (s s' : Value) (w : World) (hS : Std I a w) (hR : RN w s o.A) (hR' : RN w s' o'.A) (hF : Fit o) (hF' : Fit o') (h0 : insE o = 0) (h0' : insE o' = 0) (hn : joinB o o' = false) :
    Calls Tryd.prog 27 #[opV o s, opV o' s'] w fun r w' => r = .returned (.tuple #[opV opZ nilS, .bool false, .int .i64 0]) ∧ Below w.heap.size w w' := by
  have b0 := bxJ_below w o s o' s'
  have c1 := ref_ins o s _ (hS.below b0) (hR.below b0) hF
  have c2 := fun W (hW : Below w.heap.size w W) => ref_ins o' s' W (hS.below hW) (hR'.below hW) hF'
  have cS := fun W (hW : Below w.heap.size w W) => sameAttrs_any s s' o.A o'.A W (hR.below hW).row (hR'.below hW).row (by have := hF.n; omega) (by have := hF'.n; omega)
  have Z0 : BoxO (bxJ w o s o' s') w.heap.size o s := ((BoxO.new w o s).below ((Below.refl _ _).alloc (Nat.le_refl _) _)).below ((Below.refl _ _).alloc (Nat.le_refl _) _)
  have Z1 := bxJ_1 w o s o' s'
  have Z2 := bxJ_2 w o s o' s'
  rw [h0] at c1
  simp only [h0'] at c2
  obtain ⟨R, hRR⟩ : ∃ R, decide (o.A = o'.A) = R := ⟨_, rfl⟩
  unfold joinB at hn
  rw [hRR] at hn
  simp only [hRR] at cS
  clear hR hR' hS hF hF' h0 h0' hRR
  obtain ⟨k, t, ⟨x, n, u⟩, c, A⟩ := o
  obtain ⟨k', t', ⟨x', n', u'⟩, c', A'⟩ := o'
  simp only at hn
  go_enter Tryd.func27, Tryd.ntmps27
  go_wp2_with fail
  refine c1.mono ?_; rintro r w2 ⟨rfl, hb2⟩
  have b2 := b0.trans (hb2.mono b0.size)
  obtain ⟨d0, d1, d2, d3, d4, d5, d6⟩ := Z1.below hb2
  have Y0 := Z0.below hb2
  have Y1 := Z1.below hb2
  have Y2 := Z2.1.below hb2
  have X2 := Z2.2.below Z2.1 hb2
  simp only at d0 d1 d2 d3 d4 d5
  clear c1 b0 hb2 Z2 Z1 Z0
  go_wp2_with fail
  refine (c2 _ b2).mono ?_; rintro r w3 ⟨rfl, hb3⟩
  have b3 := b2.trans (hb3.mono b2.size)
  have V0 := Y0.below hb3
  have V1 := Y1.below hb3
  have V2 := Y2.below hb3
  have U2 := X2.below Y2 hb3
  have g0 := V0.d0
  have g6 := V0.d6
  have g0' := V1.d0
  have g6' := V1.d6
  simp only at g0 g6 g0' g6'
  clear c2 b2 hb3 Y0 Y1 Y2 X2 d0 d1 d2 d3 d4 d5 d6
  go_wp2_with fail
  refine (cS _ b3).mono ?_; rintro r w4 ⟨rfl, hb4⟩
  have b4 := b3.trans (hb4.mono b3.size)
  obtain ⟨q0, q1, q2, q3, q4, q5, q6⟩ := V2.below hb4
  obtain ⟨h0, h1, h2, h3, h4, h5, h6⟩ := U2.below V2 hb4
  have e0 := (hb4.cell (lt_of_cell g0)).trans g0
  have e0' := (hb4.cell (lt_of_cell g0')).trans g0'
  simp only [z0] at q0 q1 q2 q3 q4 q5 q6
  clear cS b3 hb4 V0 V1 V2 U2 g0 g6 g0' g6'
  cases R with
  | false =>
    clear hn
    go_wp2
    exact bodyPost_ret (v := .tuple #[opV opZ nilS, .bool false, .int .i64 0]) (by simp [results, Tryd.results27, go_sem, z0, q0, q1, q2, q3, q4, q5, q6]) rfl ⟨rfl, below_set7 b4 (by omega) _ _ _ _ _ _ _⟩
  | true =>
    by_cases hk : k = 1
    · subst hk
      have hk' : (k' != 1) = true := by
        simp at hn
        simpa using hn
      clear hn
      go_wp2
      exact bodyPost_ret (v := .tuple #[opV opZ nilS, .bool false, .int .i64 0]) (by simp [results, Tryd.results27, go_sem, z0, q0, q1, q2, q3, q4, q5, q6]) rfl ⟨rfl, below_set7 b4 (by omega) _ _ _ _ _ _ _⟩
    · have hk' : (k != 1) = true := by simpa using hk
      clear hn hk
      go_wp2
      exact bodyPost_ret (v := .tuple #[opV opZ nilS, .bool false, .int .i64 0]) (by simp [results, Tryd.results27, go_sem, z0, q0, q1, q2, q3, q4, q5, q6]) rfl ⟨rfl, below_set7 b4 (by omega) _ _ _ _ _ _ _⟩

set_option maxHeartbeats 2000000 in
set_option maxRecDepth 100000 in
theorem refJoin_ok {I : List Nat} {a : Nat → Addr} (o o' : Op5) (s s' : Value) (w : World) (hS : Std I a w) (hR : RN w s o.A) (hR' : RN w s' o'.A) (hF : Fit o) (hF' : Fit o') (h0 : insE o = 0) (h0' : insE o' = 0) (hk : o.k = 1) (hk' : o'.k = 1) (hA : o.A = o'.A) :
    Calls Tryd.prog 27 #[opV o s, opV o' s'] w fun r w' => ∃ s1, r = .returned (.tuple #[opV (joinO o o') s1, .bool true, .int .i64 0]) ∧ OwnA w' w.heap.size s1 o.A ∧ Below w.heap.size w w' := by
  have b0 := bxJ_below w o s o' s'
  have c1 := ref_ins o s _ (hS.below b0) (hR.below b0) hF
  have c2 := fun W (hW : Below w.heap.size w W) => ref_ins o' s' W (hS.below hW) (hR'.below hW) hF'
  have cS := fun W (hW : Below w.heap.size w W) => sameAttrs_any s s' o.A o'.A W (hR.below hW).row (hR'.below hW).row (by have := hF.n; omega) (by have := hF'.n; omega)
  have cC := fun W (hW : Below w.heap.size w W) => copied_any s o.A W (hR.below hW) (by have := hF.n; omega)
  have Z0 : BoxO (bxJ w o s o' s') w.heap.size o s := ((BoxO.new w o s).below ((Below.refl _ _).alloc (Nat.le_refl _) _)).below ((Below.refl _ _).alloc (Nat.le_refl _) _)
  have Z1 := bxJ_1 w o s o' s'
  have Z2 := bxJ_2 w o s o' s'
  rw [h0] at c1
  simp only [h0'] at c2
  simp only [decide_eq_true hA] at cS
  have hcat : ¬ 9223372036854775807 < o.t.size + o'.t.size := by have := hF.t; have := hF'.t; omega
  clear hR hR' hS hF hF' h0 h0' hA
  unfold joinO
  obtain ⟨k, t, ⟨x, n, u⟩, c, A⟩ := o
  obtain ⟨k', t', ⟨x', n', u'⟩, c', A'⟩ := o'
  simp only at hk hk' hcat cC
  subst hk
  subst hk'
  go_enter Tryd.func27, Tryd.ntmps27
  go_wp2_with fail
  refine c1.mono ?_; rintro r w2 ⟨rfl, hb2⟩
  have b2 := b0.trans (hb2.mono b0.size)
  obtain ⟨d0, d1, d2, d3, d4, d5, d6⟩ := Z1.below hb2
  have Y0 := Z0.below hb2
  have Y1 := Z1.below hb2
  have Y2 := Z2.1.below hb2
  have X2 := Z2.2.below Z2.1 hb2
  simp only at d0 d1 d2 d3 d4 d5
  clear c1 b0 hb2 Z2 Z1 Z0
  go_wp2_with fail
  refine (c2 _ b2).mono ?_; rintro r w3 ⟨rfl, hb3⟩
  have b3 := b2.trans (hb3.mono b2.size)
  have V0 := Y0.below hb3
  have V1 := Y1.below hb3
  have V2 := Y2.below hb3
  have U2 := X2.below Y2 hb3
  have g0 := V0.d0
  have g6 := V0.d6
  have g0' := V1.d0
  have g6' := V1.d6
  simp only at g0 g6 g0' g6'
  clear c2 b2 hb3 Y0 Y1 Y2 X2 d0 d1 d2 d3 d4 d5 d6
  go_wp2_with fail
  refine (cS _ b3).mono ?_; rintro r w4 ⟨rfl, hb4⟩
  have b4 := b3.trans (hb4.mono b3.size)
  have T2 := V2.below hb4
  have S2 := U2.below V2 hb4
  have e0 := (hb4.cell (lt_of_cell g0)).trans g0
  have e1 := (V0.below hb4).d1
  have e6 := (V0.below hb4).d6
  have e0' := (hb4.cell (lt_of_cell g0')).trans g0'
  have e1' := (V1.below hb4).d1
  simp only at e1 e6 e1'
  clear cS b3 hb4 V0 V1 V2 U2 g0 g6 g0' g6'
  go_wp2_with fail
  have HB : Hid (BoxO w4.drew (w.heap.size + 1 + 1) opZ nilS ∧ FrO w4.drew (w.heap.size + 1 + 1)) := ⟨T2.drew, S2.drew⟩
  have j1 : w4.drew.cell? ⟨w.heap.size, 1, none⟩ = some (.string t) := e1
  have j6 : w4.drew.cell? ⟨w.heap.size, 6, none⟩ = some s := e6
  have j1' : w4.drew.cell? ⟨w.heap.size + 1, 1, none⟩ = some (.string t') := e1'
  have cC1 := cC w4.drew b4.drew
  have b4d : Below w.heap.size w w4.drew := b4.drew
  clear T2 S2 b4 e0 e1 e6 e0' e1' cC
  have hz5 : w.heap.size ≤ w4.drew.heap.size := b4d.size
  have hs2 : w.heap.size ≤ w.heap.size + 1 + 1 := by omega
  have n1 : w.heap.size ≠ w.heap.size + 1 + 1 := by omega
  have n2 : w.heap.size + 1 ≠ w.heap.size + 1 + 1 := by omega
  go_region_held3 (fun w' => w'.cell? ⟨w.heap.size, 1, none⟩ = some (.string t) ∧ w'.cell? ⟨w.heap.size, 6, none⟩ = some s ∧ w'.cell? ⟨w.heap.size + 1, 1, none⟩ = some (.string t') ∧ Below w.heap.size w w')
    (refine ⟨?_, ?_, ?_, ?_⟩ <;> with_reducible first | assumption | exact (cell_set7 _ n1 _ _ _ _ _ _ _).trans i6 | exact (cell_set7 _ n1 _ _ _ _ _ _ _).trans k6 | exact (cell_set7 _ n2 _ _ _ _ _ _ _).trans l6 | exact below_set7 G6 hs2 _ _ _ _ _ _ _)
    (first
      | (go_at_call 45; refine cC1.mono ?_; rintro r w6 ⟨s1, rfl, o1, b6⟩; obtain ⟨pa1, ca1, rfl⟩ := own_slice o1; clear cC1; have G6 := b4d.trans (b6.mono hz5); have i6 := (b6.cell (lt_of_cell j1)).trans j1; have k6 := (b6.cell (lt_of_cell j6)).trans j6; have l6 := (b6.cell (lt_of_cell j1')).trans j1'; have O6 : Hid (OwnA w6 w4.drew.heap.size (.slice pa1 A.length ca1) A) := o1; clear o1; have Z8 := HB.out; obtain ⟨q0, q1, q2, q3, q4, q5, q6⟩ := Z8.1.below b6; obtain ⟨h0, h1, h2, h3, h4, h5, h6⟩ := Z8.2.below Z8.1 b6; simp only [z0] at q0 q1 q2 q3 q4 q5 q6))
  have hz : w.heap.size + 1 + 1 < w4.drew.heap.size := lt_of_cell Z8.1.d0
  have same : ∀ (u0 u1 u2 u3 u4 u5 u6 : Value) (v : Value) (hv : OwnA w6 w4.drew.heap.size v A), OwnA (((((((w6.setCell ⟨w.heap.size + 1 + 1, 0, none⟩ u0).setCell ⟨w.heap.size + 1 + 1, 1, none⟩ u1).setCell ⟨w.heap.size + 1 + 1, 2, none⟩ u2).setCell ⟨w.heap.size + 1 + 1, 3, none⟩ u3).setCell ⟨w.heap.size + 1 + 1, 4, none⟩ u4).setCell ⟨w.heap.size + 1 + 1, 5, none⟩ u5).setCell ⟨w.heap.size + 1 + 1, 6, none⟩ u6) w.heap.size v A := fun u0 u1 u2 u3 u4 u5 u6 v hv =>
    own_weaken (owns_same hv fun k hk => by
      have := (owns_block hv k hk).1
      exact heap_set7 _ (by omega) _ _ _ _ _ _ _) hz5
  go_wp2
  exact bodyPost_ret (v := .tuple #[opV ⟨1, t ++ t', z0, 0, []⟩ (.slice pa1 A.length ca1), .bool true, .int .i64 0]) (by simp [results, Tryd.results27, go_sem, z0, q0, q1, q2, q3, q4, q5, q6]) rfl
    ⟨_, rfl, same _ _ _ _ _ _ _ _ O6.out, below_set7 G6 hs2 _ _ _ _ _ _ _⟩

/-- The reference's Join at all operations. -/
theorem refJoin_any {I : List Nat} {a : Nat → Addr} (o o' : Op5) (s s' : Value) (w : World) (hS : Std I a w) (hR : RN w s o.A) (hR' : RN w s' o'.A) (hF : Fit o) (hF' : Fit o') :
    Calls Tryd.prog 27 #[opV o s, opV o' s'] w fun r w' => ∃ s1, r = .returned (.tuple #[opV (jR o o') s1, .bool (jB o o'), .int .i64 (joinE o o')]) ∧ OwnA w' w.heap.size s1 (jR o o').A ∧ Below w.heap.size w w' := by
  have oN : ∀ W, OwnA W w.heap.size nilS [] := fun W => ⟨rfl, Or.inl ⟨rfl, rfl⟩⟩
  have no : ∀ E : Nat, E = joinE o o' → jB o o' = false → Calls Tryd.prog 27 #[opV o s, opV o' s'] w (fun r w' => r = .returned (.tuple #[opV opZ nilS, .bool false, .int .i64 E]) ∧ Below w.heap.size w w') → Calls Tryd.prog 27 #[opV o s, opV o' s'] w fun r w' => ∃ s1, r = .returned (.tuple #[opV (jR o o') s1, .bool (jB o o'), .int .i64 (joinE o o')]) ∧ OwnA w' w.heap.size s1 (jR o o').A ∧ Below w.heap.size w w' := fun E hE hB h => by
    have hr : jR o o' = opZ := by unfold jR; rw [if_neg (by rw [hB]; exact Bool.false_ne_true)]
    rw [hr, hB, ← hE]
    exact h.mono fun r w' ⟨h1, h2⟩ => ⟨nilS, h1, oN w', h2⟩
  by_cases h1 : insE o = 0
  · by_cases h2 : insE o' = 0
    · have hE : joinE o o' = 0 := by unfold joinE; rw [if_pos h1, h2]
      by_cases hj : joinB o o' = true
      · have hB : jB o o' = true := by unfold jB; rw [hE, hj]; rfl
        obtain ⟨_, _, k1, k2, hA⟩ := jB_yes hB
        have hr : jR o o' = joinO o o' := by unfold jR; rw [if_pos hB]
        rw [hr, hB, hE]
        exact refJoin_ok o o' s s' w hS hR hR' hF hF' h1 h2 k1 k2 hA
      · have hj' : joinB o o' = false := by simpa using hj
        have hB : jB o o' = false := by unfold jB; rw [hj']; simp
        exact no 0 hE.symm hB (refJoin_ne o o' s s' w hS hR hR' hF hF' h1 h2 hj')
    · have hE : joinE o o' = insE o' := by unfold joinE; rw [if_pos h1]
      have hB : jB o o' = false := by unfold jB; rw [hE]; simp [h2]
      exact no _ hE.symm hB (refJoin_no2 o o' s s' w hS hR hR' hF hF' h1 h2)
  · have hE : joinE o o' = insE o := by unfold joinE; rw [if_neg h1]
    have hB : jB o o' = false := by unfold jB; rw [hE]; simp [h1]
    exact no _ hE.symm hB (refJoin_no1 o o' s s' w hS hR hF h1)
end Go.Proofs.YtecmdlecfddeeaaDoor

/- Rows of operations as they lie in memory. -/
namespace Go.Proofs.YtecmdlecfddeeaaDoor
open Go Go.RowKit Go.Lib
set_option linter.unusedVariables false

/-- An operation as it lies in memory: its fields, its list as a slice. -/
abbrev OV : Type := Int × ByteArray × P3 × Int × Sl
abbrev ovC (d : OV) : Array Value := #[.int .i64 d.1, .string d.2.1, .int .i64 d.2.2.1.1, .int .i64 d.2.2.1.2.1, .string d.2.2.1.2.2, .int .i64 d.2.2.2.1, slV d.2.2.2.2]
abbrev ovV (d : OV) : Value := .agg (ovC d)
def cellsO : List OV → List Value
  | [] => []
  | d :: r => .int .i64 d.1 :: .string d.2.1 :: .int .i64 d.2.2.1.1 :: .int .i64 d.2.2.1.2.1 :: .string d.2.2.1.2.2 :: .int .i64 d.2.2.2.1 :: slV d.2.2.2.2 :: cellsO r
theorem cellsO_len : ∀ L : List OV, (cellsO L).length = L.length * 7
  | [] => rfl
  | q :: r => by simp [cellsO, cellsO_len r]; omega
theorem cellsO_append : ∀ L M : List OV, cellsO (L ++ M) = cellsO L ++ cellsO M
  | [], M => rfl
  | q :: r, M => by simp [cellsO, cellsO_append r M]
theorem cellsO_one : ∀ (L : List OV), ∀ u ∈ cellsO L, u.oneCell' = true
  | [], u, h => by cases h
  | q :: r, u, h => by
    simp only [cellsO, List.mem_cons] at h
    rcases h with rfl | rfl | rfl | rfl | rfl | rfl | rfl | h
    · rfl
    · rfl
    · rfl
    · rfl
    · rfl
    · rfl
    · rfl
    · exact cellsO_one r u h
theorem cellsO_get : ∀ (L : List OV) (i : Nat) (d : OV), L[i]? = some d → (cellsO L)[i * 7]? = some (.int .i64 d.1) ∧ (cellsO L)[i * 7 + 1]? = some (.string d.2.1) ∧ (cellsO L)[i * 7 + 2]? = some (.int .i64 d.2.2.1.1) ∧ (cellsO L)[i * 7 + 3]? = some (.int .i64 d.2.2.1.2.1) ∧ (cellsO L)[i * 7 + 4]? = some (.string d.2.2.1.2.2) ∧ (cellsO L)[i * 7 + 5]? = some (.int .i64 d.2.2.2.1) ∧ (cellsO L)[i * 7 + 6]? = some (slV d.2.2.2.2)
  | [], i, q, h => by simp at h
  | p :: r, 0, q, h => by
    obtain rfl : p = q := by simpa using h
    exact ⟨rfl, rfl, rfl, rfl, rfl, rfl, rfl⟩
  | p :: r, i + 1, q, h => by
    have := cellsO_get r i q (by simpa using h)
    rw [show (i + 1) * 7 = i * 7 + 1 + 1 + 1 + 1 + 1 + 1 + 1 by omega]
    simpa [cellsO] using this
/-- An operation at a place. -/
structure OpAt (w : World) (b off : Nat) (d : OV) : Prop where
  c0 : w.cell? ⟨b, off, none⟩ = some (.int .i64 d.1)
  c1 : w.cell? ⟨b, off + 1, none⟩ = some (.string d.2.1)
  c2 : w.cell? ⟨b, off + 2, none⟩ = some (.int .i64 d.2.2.1.1)
  c3 : w.cell? ⟨b, off + 3, none⟩ = some (.int .i64 d.2.2.1.2.1)
  c4 : w.cell? ⟨b, off + 4, none⟩ = some (.string d.2.2.1.2.2)
  c5 : w.cell? ⟨b, off + 5, none⟩ = some (.int .i64 d.2.2.2.1)
  c6 : w.cell? ⟨b, off + 6, none⟩ = some (slV d.2.2.2.2)
theorem OpAt.lt {w : World} {b off : Nat} {d : OV} (h : OpAt w b off d) : b < w.heap.size := lt_of_cell h.c0
theorem OpAt.same {w w' : World} {b off : Nat} {d : OV} (h : OpAt w b off d) (e : ∀ i, w'.cell? ⟨b, i, none⟩ = w.cell? ⟨b, i, none⟩) : OpAt w' b off d :=
  ⟨(e _).trans h.c0, (e _).trans h.c1, (e _).trans h.c2, (e _).trans h.c3, (e _).trans h.c4, (e _).trans h.c5, (e _).trans h.c6⟩
theorem OpAt.below {w w' : World} {b off : Nat} {d : OV} (h : OpAt w b off d) (hb : Below w.heap.size w w') : OpAt w' b off d := h.same fun i => World.cell?_of_block (a := ⟨b, i, none⟩) (hb.block b h.lt)
/-- A slice of operations, as it lies in memory. -/
def RowO (w : World) (v : Value) (D : List OV) : Prop :=
  ∃ p cap, v = .slice p D.length cap ∧ D.length ≤ cap ∧ (p = none → cap = 0) ∧ ∀ (j : Nat) (d : OV), D[j]? = some d → ∃ b off, p = some ⟨b, off, none⟩ ∧ OpAt w b (off + j * 7) d
theorem RowO.below {w w' : World} {v : Value} {D : List OV} (h : RowO w v D) (hb : Below w.heap.size w w') : RowO w' v D := by
  obtain ⟨p, cap, rfl, hl, hn, hc⟩ := h
  exact ⟨p, cap, rfl, hl, hn, fun j d hd => by obtain ⟨b, off, hp, h0⟩ := hc j d hd; exact ⟨b, off, hp, h0.below hb⟩⟩
theorem RowO.nil (w : World) : RowO w (.slice none 0 0) [] := ⟨none, 0, rfl, Nat.le_refl _, fun _ => rfl, fun j d h => by simp at h⟩
abbrev OwnO (w : World) (B : Nat) (v : Value) (D : List OV) : Prop := w.ownsRow B 26 7 v D.length (cellsO D)
theorem own_opAt {w : World} {B g n cap : Nat} {D : List OV} (h : w.ownsRow B 26 7 (.slice (some ⟨g, 0, none⟩) n cap) n (cellsO D)) (j : Nat) (d : OV) (hd : D[j]? = some d) : OpAt w g (0 + j * 7) d := by
  have hc := h.cells (g := g) rfl
  obtain ⟨k0, k1, k2, k3, k4, k5, k6⟩ := cellsO_get D j d hd
  rw [Nat.zero_add]
  have e := fun i u (hu : (cellsO D)[i]? = some u) => by have := hc i u hu; rw [Addr.add_lit, Nat.zero_add] at this; exact this
  exact ⟨e _ _ k0, e _ _ k1, e _ _ k2, e _ _ k3, e _ _ k4, e _ _ k5, e _ _ k6⟩
theorem own_rowO {w : World} {B : Nat} {v : Value} {D : List OV} (h : OwnO w B v D) : RowO w v D := by
  have hcc := h
  rcases h.2 with ⟨rfl, h0⟩ | ⟨g, cap, cur, rfl, h2, h3, h4, h5, h6, h7⟩
  · have : D = [] := List.eq_nil_of_length_eq_zero h0
    subst this
    exact RowO.nil w
  · exact ⟨some ⟨g, 0, none⟩, cap, rfl, h4, fun h => (by cases h), fun j d hd => ⟨g, 0, rfl, own_opAt hcc j d hd⟩⟩
theorem infoOp : ∃ i z, Tryd.prog.info? 26 = some i ∧ i.zero = some z ∧ i.size = 7 ∧ i.bytes = 88 ∧ z.cells.size = 7 := by
  obtain ⟨i, hi, h⟩ := Option.map_eq_some_iff.1 (show (Tryd.prog.info? 26).map (fun i => (i.zero, i.size, i.bytes)) = some (some (.agg #[.int .i64 0, .string ⟨#[]⟩, .int .i64 0, .int .i64 0, .string ⟨#[]⟩, .int .i64 0, .slice none 0 0]), 7, 88) by kernel_rfl)
  simp only [Prod.mk.injEq] at h
  exact ⟨i, _, hi, h.1, h.2.1, h.2.2, rfl⟩
/-- append(own, a row of operations), with where the new slice lies. -/
theorem wpList_append_ops {w : World} {ops : Array Oper} {rest : List Oper} {o : Oper} {a : Act} {Q : Exit → Act → World → Prop} (hgd : o.guard = none) (s x : Operand)
    (ho : o.op = .call { callee := .builtin .append, args := #[s, x], argTypes := #[29, 29] })
    (base : Nat) (v : Value) (L : List OV) (hs : a.eval s = v) (hown : OwnO w base v L)
    (b c : Nat) (d : OV) (hx : a.eval x = .slice (some ⟨b, 0, none⟩) 1 c) (hM : OpAt w b 0 d)
    (h63 : L.length ≤ 33554432) (hbase : base ≤ w.heap.size)
    (h : ∀ v' w', OwnO w' base v' (L ++ [d]) → w.grownBy w' v.ownBlock → (v'.ownBlock = v.ownBlock ∨ v'.ownBlock = some w.heap.size) → wpList Tryd.prog ops Q rest (a.put o.dst v') w') : wpList Tryd.prog ops Q (o :: rest) a w := by
  obtain ⟨i, z, hi, hz, hz1, hz2, hz3⟩ := infoOp
  refine wpList_append_own_at _ hgd s x _ ho base 26 i z 7 88 Tryd.underlying29 hi hz hz1 hz2 hz3 (by decide) v L.length (cellsO L) hs hown ⟨b, 0, none⟩ 1 c (cellsO [d]) hx (by rw [cellsO_len]; rfl) (fun j y hj => ?_) (cellsO_one _) (by unfold maxLen; omega) (by omega) hbase (fun v' w' h1 h2 _ h3 => ?_)
  · rw [Addr.add_lit, Nat.zero_add]
    have h0 := hM.c0
    have h1 := hM.c1
    have h2 := hM.c2
    have h3 := hM.c3
    have h4 := hM.c4
    have h5 := hM.c5
    have h6 := hM.c6
    simp only [Nat.zero_add] at h0 h1 h2 h3 h4 h5 h6
    match j, hj with
    | 0, hj => simp [cellsO] at hj; rw [← hj]; exact h0
    | 1, hj => simp [cellsO] at hj; rw [← hj]; exact h1
    | 2, hj => simp [cellsO] at hj; rw [← hj]; exact h2
    | 3, hj => simp [cellsO] at hj; rw [← hj]; exact h3
    | 4, hj => simp [cellsO] at hj; rw [← hj]; exact h4
    | 5, hj => simp [cellsO] at hj; rw [← hj]; exact h5
    | 6, hj => simp [cellsO] at hj; rw [← hj]; exact h6
    | j + 7, hj => simp [cellsO] at hj
  · refine h v' w' ?_ h2 ?_
    · show w'.ownsRow _ _ _ _ _ _
      rw [cellsO_append, List.length_append]
      exact h1
    · exact h3
theorem own_emptyO (w : World) (B : Nat) (hB : B ≤ w.heap.size) : OwnO (w.alloc (.cells #[] 26)) B (.slice (some ⟨w.heap.size, 0, none⟩) 0 0) [] :=
  ⟨rfl, Or.inr ⟨w.heap.size, 0, #[], rfl, hB, by show (w.heap.push _)[w.heap.size]? = _; simp, Nat.le_refl _, Nat.zero_le _, rfl, rfl⟩⟩
end Go.Proofs.YtecmdlecfddeeaaDoor

/- The mark behind a list's end. -/
namespace Go.Proofs.YtecmdlecfddeeaaDoor
abbrev s1 : A2 := (⟨#[115, 112, 97, 114, 101]⟩, 0, 0, ⟨#[]⟩)
end Go.Proofs.YtecmdlecfddeeaaDoor

/- What vellumspare.Copy makes: operations with spare room; what writing over them leaves. -/
namespace Go.Proofs.YtecmdlecfddeeaaDoor
open Go Go.RowKit Go.Lib
set_option linter.unusedVariables false

/-- But for the blocks between two marks the memory stands, and all blocks keep their shape. -/
structure Out (lo hi : Nat) (w w' : World) : Prop where
  os : w'.os = w.os
  tape : w'.tape = w.tape
  output : w'.output = w.output
  size : w.heap.size ≤ w'.heap.size
  block : ∀ k, k < w.heap.size → (k < lo ∨ hi ≤ k) → w'.heap[k]? = w.heap[k]?
  shape : ∀ (k : Nat) (cur : Array Value) (e : TypeId) (fz : Nat × Nat), w.heap[k]? = some (.cells cur e fz) → k < hi → ∃ cur' : Array Value, w'.heap[k]? = some (.cells cur' e fz) ∧ cur'.size = cur.size
theorem Out.refl (lo hi : Nat) (w : World) : Out lo hi w w := ⟨rfl, rfl, rfl, Nat.le_refl _, fun _ _ _ => rfl, fun k cur e fz h _ => ⟨cur, h, rfl⟩⟩
theorem Out.trans {lo hi : Nat} {a b c : World} (h : Out lo hi a b) (k : Out lo hi b c) : Out lo hi a c :=
  ⟨k.os.trans h.os, k.tape.trans h.tape, k.output.trans h.output, Nat.le_trans h.size k.size, fun i hi ho => (k.block i (Nat.lt_of_lt_of_le hi h.size) ho).trans (h.block i hi ho), fun i cur e fz hc hi => by
    obtain ⟨c1, h1, s1⟩ := h.shape i cur e fz hc hi
    obtain ⟨c2, h2, s2⟩ := k.shape i c1 e fz h1 hi
    exact ⟨c2, h2, s2.trans s1⟩⟩
theorem Out.of_below {lo hi : Nat} {w w' : World} (h : Below w.heap.size w w') : Out lo hi w w' :=
  ⟨h.os, h.tape, h.output, h.size, fun k hk _ => h.block k hk, fun k cur e fz hc _ => ⟨cur, (h.block k (Array.getElem?_eq_some_iff.1 hc).1).trans hc, rfl⟩⟩
theorem Out.drew {lo hi : Nat} {w w' : World} (h : Out lo hi w w') : Out lo hi w w'.drew := ⟨h.os, h.tape, h.output, h.size, h.block, h.shape⟩
theorem heap_set_at (w : World) (g j : Nat) (u : Value) (cur : Array Value) (e : TypeId) (f : Nat × Nat) (h : w.heap[g]? = some (.cells cur e f)) : (w.setCell ⟨g, j, none⟩ u).heap[g]? = some (.cells (cur.setIfInBounds j u) e f) := by
  simp [World.setCell, Array.getElem?_modify, h]
theorem Out.setCell {lo hi : Nat} {w w' : World} (h : Out lo hi w w') (g j : Nat) (u : Value) (h1 : lo ≤ g) (h2 : g < hi) : Out lo hi w (w'.setCell ⟨g, j, none⟩ u) := by
  refine h.trans ⟨rfl, rfl, rfl, by simp, fun k hk ho => Below.heap_setCell _ _ _ _ (by show k ≠ g; omega), fun k cur e fz hc _ => ?_⟩
  by_cases hg : k = g
  · subst hg
    exact ⟨_, heap_set_at _ _ _ _ _ _ _ hc, by simp⟩
  · exact ⟨cur, (Below.heap_setCell _ _ _ _ hg).trans hc, rfl⟩
theorem Out.below {lo hi : Nat} {w w' : World} (h : Out lo hi w w') (hl : lo ≤ w.heap.size) : Below lo w w' := ⟨h.os, h.tape, h.output, h.size, fun k hk => h.block k (by omega) (Or.inl hk)⟩
theorem Out.own {lo hi B : Nat} {w w' : World} (h : Out lo hi w w') (hB : hi ≤ B) {e : TypeId} {sz n : Nat} {v : Value} {xs : List Value} (o : w.ownsRow B e sz v n xs) : w'.ownsRow B e sz v n xs :=
  owns_same o fun k hk => by
    obtain ⟨h1, cur, h2⟩ := owns_block o k hk
    exact h.block k (Array.getElem?_eq_some_iff.1 h2).1 (Or.inr (by omega))

/-- A list with a mark behind its end, in blocks between two marks. -/
def SpA (w : World) (lo hi : Nat) (s : Sl) (A : List A2) : Prop :=
  (A = [] ∧ s = (none, 0, 0)) ∨ ∃ g c, A ≠ [] ∧ s = (some ⟨g, 0, none⟩, A.length, c) ∧ lo ≤ g ∧ g < hi ∧ A.length ≤ c ∧ OwnA w lo (.slice (some ⟨g, 0, none⟩) (A ++ [s1]).length c) (A ++ [s1])
theorem SpA.below {w w' : World} {lo hi hi' : Nat} {s : Sl} {A : List A2} (h : SpA w lo hi s A) (b : Below w.heap.size w w') (hh : hi ≤ hi') : SpA w' lo hi' s A := by
  rcases h with h | ⟨g, c, h1, h2, h3, h4, h5, h6⟩
  · exact Or.inl h
  · exact Or.inr ⟨g, c, h1, h2, h3, by omega, h5, owns_below h6 b⟩
theorem SpA.keep {w w' : World} {lo hi hi' : Nat} {s : Sl} {A : List A2} (h : SpA w lo hi s A) (b : KeepA w w') (hh : hi ≤ hi') : SpA w' lo hi' s A := by
  rcases h with h | ⟨g, c, h1, h2, h3, h4, h5, h6⟩
  · exact Or.inl h
  · exact Or.inr ⟨g, c, h1, h2, h3, by omega, h5, keepA_own h6 b⟩
theorem SpA.RN {w : World} {lo hi : Nat} {s : Sl} {A : List A2} (h : SpA w lo hi s A) : RN w (slV s) A := by
  rcases h with ⟨rfl, rfl⟩ | ⟨g, c, h1, rfl, h3, h4, h5, h6⟩
  · exact RN.nil w
  · obtain ⟨p, c', he, hc, hr⟩ := own_rowA h6
    simp only [Value.slice.injEq] at he
    obtain ⟨rfl, -, rfl⟩ := he
    refine ⟨⟨_, _, rfl, by simp at hc; omega, fun j x hx => hr j x ?_⟩, fun m c h => by simp at h⟩
    rw [List.getElem?_append_left (List.getElem?_eq_some_iff.1 hx).1]; exact hx
theorem SpA.upto {w w' : World} {lo hi hi' : Nat} {s : Sl} {A : List A2} (h : SpA w lo hi s A) (b : Below hi w w') (hh : hi ≤ hi') : SpA w' lo hi' s A := by
  rcases h with h | ⟨g, c, h1, h2, h3, h4, h5, h6⟩
  · exact Or.inl h
  · exact Or.inr ⟨g, c, h1, h2, h3, by omega, h5, owns_same h6 fun k hk => b.block k (by simp only [Value.ownBlock, Option.some.injEq] at hk; omega)⟩
theorem SpA.setBelow {w : World} {lo hi : Nat} {s : Sl} {A : List A2} (h : SpA w lo hi s A) {g : Nat} (hg : g < lo) (j : Nat) (u : Value) : SpA (w.setCell ⟨g, j, none⟩ u) lo hi s A := by
  rcases h with h | ⟨g', c, h1, h2, h3, h4, h5, h6⟩
  · exact Or.inl h
  · exact Or.inr ⟨g', c, h1, h2, h3, h4, h5, ownsRow_setCell_below h6 (a := ⟨g, j, none⟩) hg u⟩
theorem SpA.lower {w : World} {lo lo' hi : Nat} {s : Sl} {A : List A2} (h : SpA w lo hi s A) (hh : lo' ≤ lo) : SpA w lo' hi s A := by
  rcases h with h | ⟨g', c, h1, h2, h3, h4, h5, h6⟩
  · exact Or.inl h
  · exact Or.inr ⟨g', c, h1, h2, by omega, h4, h5, own_weaken h6 hh⟩
abbrev d77 : OV := (77, ⟨#[]⟩, z0, 0, (none, 0, 0))
/-- What an operation in memory is, its list with spare room. -/
def SpD (w : World) (lo hi : Nat) (D : List OV) (E : List Op5) : Prop := All2 (fun (d : OV) (e : Op5) => d.1 = e.k ∧ d.2.1 = e.t ∧ d.2.2.1 = e.v ∧ d.2.2.2.1 = e.c ∧ SpA w lo hi d.2.2.2.2 e.A) D E
/-- What operations in memory are. -/
def ReD (w : World) (D : List OV) (E : List Op5) : Prop := All2 (fun (d : OV) (e : Op5) => d.1 = e.k ∧ d.2.1 = e.t ∧ d.2.2.1 = e.v ∧ d.2.2.2.1 = e.c ∧ RN w (slV d.2.2.2.2) e.A) D E
theorem SpD.below {w w' : World} {lo hi hi' : Nat} {D : List OV} {E : List Op5} (h : SpD w lo hi D E) (b : Below w.heap.size w w') (hh : hi ≤ hi') : SpD w' lo hi' D E := All2.imp (fun d e h => ⟨h.1, h.2.1, h.2.2.1, h.2.2.2.1, h.2.2.2.2.below b hh⟩) h
theorem SpD.keep {w w' : World} {lo hi hi' : Nat} {D : List OV} {E : List Op5} (h : SpD w lo hi D E) (b : KeepA w w') (hh : hi ≤ hi') : SpD w' lo hi' D E := All2.imp (fun d e h => ⟨h.1, h.2.1, h.2.2.1, h.2.2.2.1, h.2.2.2.2.keep b hh⟩) h
theorem SpD.upto {w w' : World} {lo hi hi' : Nat} {D : List OV} {E : List Op5} (h : SpD w lo hi D E) (b : Below hi w w') (hh : hi ≤ hi') : SpD w' lo hi' D E := All2.imp (fun d e h => ⟨h.1, h.2.1, h.2.2.1, h.2.2.2.1, h.2.2.2.2.upto b hh⟩) h
theorem SpD.re {w : World} {lo hi : Nat} {D : List OV} {E : List Op5} (h : SpD w lo hi D E) : ReD w D E := All2.imp (fun d e h => ⟨h.1, h.2.1, h.2.2.1, h.2.2.2.1, h.2.2.2.2.RN⟩) h
theorem ReD.below {w w' : World} {D : List OV} {E : List Op5} (h : ReD w D E) (b : Below w.heap.size w w') : ReD w' D E := All2.imp (fun d e h => ⟨h.1, h.2.1, h.2.2.1, h.2.2.2.1, h.2.2.2.2.below b⟩) h
/-- Operations with spare room behind them, the call's own. -/
def SpO (w : World) (lo hi : Nat) (v : Value) (E : List Op5) : Prop :=
  ∃ g c D, v = .slice (some ⟨g, 0, none⟩) E.length c ∧ lo ≤ g ∧ g < hi ∧ D.length = E.length ∧ OwnO w lo (.slice (some ⟨g, 0, none⟩) (D ++ [d77]).length c) (D ++ [d77]) ∧ SpD w lo hi D E
theorem SpO.below {w w' : World} {lo hi : Nat} {v : Value} {E : List Op5} (h : SpO w lo hi v E) (b : Below w.heap.size w w') : SpO w' lo hi v E := by
  obtain ⟨g, c, D, h1, h2, h3, h4, h5, h6⟩ := h
  exact ⟨g, c, D, h1, h2, h3, h4, owns_below h5 b, h6.below b (Nat.le_refl _)⟩
/-- A row of operations to read. -/
def ReO (w : World) (v : Value) (E : List Op5) : Prop := ∃ D, RowO w v D ∧ ReD w D E
theorem ReO.below {w w' : World} {v : Value} {E : List Op5} (h : ReO w v E) (b : Below w.heap.size w w') : ReO w' v E := by
  obtain ⟨D, h1, h2⟩ := h
  exact ⟨D, h1.below b, h2.below b⟩
theorem SpO.re {w : World} {lo hi : Nat} {v : Value} {E : List Op5} (h : SpO w lo hi v E) : ReO w v E := by
  obtain ⟨g, c, D, rfl, h2, h3, h4, h5, h6⟩ := h
  refine ⟨D, ?_, h6.re⟩
  obtain ⟨p, c', he, hc, hn, hr⟩ := own_rowO h5
  simp only [Value.slice.injEq] at he
  obtain ⟨rfl, -, rfl⟩ := he
  refine ⟨_, _, by rw [h4], by simp at hc; omega, hn, fun j x hx => hr j x ?_⟩
  rw [List.getElem?_append_left (List.getElem?_eq_some_iff.1 hx).1]; exact hx
theorem keepA_grownO {w w' : World} {B : Nat} {v : Value} {D : List OV} (h : OwnO w B v D) (g : w.grownBy w' v.ownBlock) : KeepA w w' := fun k cur hk => by
  refine g.block k (Array.getElem?_eq_some_iff.1 hk).1 fun e => ?_
  rcases h.2 with ⟨rfl, _⟩ | ⟨b, cap, cur', rfl, _, h3, _⟩
  · cases e
  · simp only [Value.ownBlock, Option.some.injEq] at e
    subst e
    rw [h3] at hk
    simp only [Option.some.injEq, Obj.cells.injEq] at hk
    exact absurd hk.2.1 (by decide)
end Go.Proofs.YtecmdlecfddeeaaDoor

/- vellumspare.Attrs: a copy with a mark behind its end. -/
namespace Go.Proofs.YtecmdlecfddeeaaDoor
open Go Go.RowKit Go.Lib
set_option linter.unusedVariables false

set_option maxHeartbeats 2000000 in
set_option maxRecDepth 100000 in
theorem spA_any (v : Value) (A : List A2) (w : World) (hA : RowA w v A) (hl : A.length ≤ 1048576) :
    Calls Tryd.prog 34 #[v] w fun r w' => ∃ s, r = .returned (slV s) ∧ SpA w' w.heap.size w'.heap.size s A ∧ Below w.heap.size w w' := by
  obtain ⟨n, hn⟩ : ∃ n, A.length = n := ⟨_, rfl⟩
  obtain ⟨p, cap, rfl, hcap, hc⟩ := hA
  rw [hn] at hl hcap ⊢
  have HN : Hid (A.length = n) := hn
  have HC : Hid _ := hc
  clear hc hn
  by_cases h0 : n = 0
  · subst h0
    obtain rfl : A = [] := List.eq_nil_of_length_eq_zero HN.out
    go_enter Tryd.func34, Tryd.ntmps34
    go_wp2
    go_ret
    exact ⟨(none, 0, 0), rfl, Or.inl ⟨rfl, rfl⟩, Below.refl _ _⟩
  · have h0I : ((n : Int) == 0) = false := by simp; omega
    obtain ⟨q, hq⟩ : ∃ q, A[0]? = some q := ⟨_, List.getElem?_eq_getElem (by rw [HN.out]; omega)⟩
    obtain ⟨b, off, rfl, _⟩ := HC.out 0 q hq
    have hne : A ≠ [] := fun e => by have := HN.out; rw [e] at this; exact h0 this.symm
    have HE : Hid (A ≠ []) := hne
    clear hq hne h0
    have oE := own_empty' w w.heap.size (Nat.le_refl _)
    have bE := (Below.refl w.heap.size w).alloc (Nat.le_refl _) (.cells #[] 49)
    have hM : Hid (∀ (j : Nat) (x : A2), A[j]? = some x → PairAt (w.alloc (.cells #[] 49)) b (off + j * 4) x) := fun j x hx => by
      obtain ⟨b', off', he, h⟩ := HC.out j x hx
      cases he
      exact h.below bE
    have hL0 : ([] : List A2).length + n ≤ 2097152 := by simp; omega
    go_enter Tryd.func34, Tryd.ntmps34
    go_wp2_with (first
      | (at_builtin; refine wpList_append_atx rfl (.tmp 6) (.tmp 7) rfl w.heap.size (.slice (some ⟨w.heap.size, 0, none⟩) 0 0) [] rfl oE b off n cap A rfl HN.out hM.out hL0 bE.size ?_; intro v9 w9 own9 gr9 hat9; have b10 := (bE.grown gr9 bE.size (fun j hj => by simp only [Value.ownBlock, Option.some.injEq] at hj; omega)).alloc (by have h0 := gr9.size; have h1 := bE.size; omega) (.cells #[.string ⟨#[115, 112, 97, 114, 101]⟩, .int .i64 0, .int .i64 0, .string ⟨#[]⟩] 49); have O9 : Hid (OwnA w9 w.heap.size v9 A) := own9; have O10 : Hid (OwnA (w9.alloc (.cells #[.string ⟨#[115, 112, 97, 114, 101]⟩, .int .i64 0, .int .i64 0, .string ⟨#[]⟩] 49)) w.heap.size v9 A) := owns_below O9.out ((Below.refl _ _).alloc (Nat.le_refl _) _); have hL1 : Hid (A.length + 1 ≤ 2097152) := (by show _ ≤ _; rw [HN.out]; omega); have hge : Hid (∀ j, v9.ownBlock = some j → w.heap.size ≤ j) := (fun j hj => (owns_block O10.out j hj).1); clear own9 gr9 hat9 oE bE hM O9)
      | (at_builtin; refine wpList_append_atx rfl (.tmp 8) (.tmp 10) rfl w.heap.size v9 A rfl O10.out w9.heap.size 0 1 1 [s1] rfl rfl (one_at ⟨by simp, by simp, by simp, by simp⟩) hL1.out b10.size ?_; intro v11 w11 own11 gr11 hat11; have b11 := b10.grown gr11 b10.size (fun j hj => hge.out j hj); obtain ⟨p11, c11, e11, hc11, hr11⟩ := own_rowA own11; rw [show (A ++ [s1]).length = n + 1 by simp [HN.out]] at e11 hc11; subst e11; have HO : Hid (OwnA w11 w.heap.size (.slice p11 (n + 1) c11) (A ++ [s1])) := own11; have hcI : n ≤ c11 := (by omega); clear own11 gr11 hat11 O10 b10 hge hr11))
    go_ret
    have hO := HO.out
    have hN := HN.out
    rcases hO.2 with ⟨h1, h2⟩ | ⟨g, cap', cur, h1, h2, h3, h4, h5, h6, h7⟩
    · simp at h2
    · simp only [Value.slice.injEq] at h1
      obtain ⟨rfl, -, rfl⟩ := h1
      refine ⟨(some ⟨g, 0, none⟩, n, c11), rfl, Or.inr ⟨g, c11, HE.out, by rw [hN], h2, (Array.getElem?_eq_some_iff.1 h3).1, by omega, ?_⟩, b11⟩
      rw [show (A ++ [s1]).length = n + 1 by simp [hN]]
      exact hO
end Go.Proofs.YtecmdlecfddeeaaDoor

/- vellumspare.Copy: operations as new memory, with spare room. -/
namespace Go.Proofs.YtecmdlecfddeeaaDoor
open Go Go.RowKit Go.Lib
set_option linter.unusedVariables false

theorem spD_snoc {w : World} {lo hi : Nat} {D : List OV} {E : List Op5} {d : OV} {e : Op5} (h : SpD w lo hi D E) (h1 : d.1 = e.k ∧ d.2.1 = e.t ∧ d.2.2.1 = e.v ∧ d.2.2.2.1 = e.c ∧ SpA w lo hi d.2.2.2.2 e.A) : SpD w lo hi (D ++ [d]) (E ++ [e]) :=
  forall2_append h (.cons h1 .nil)

set_option maxHeartbeats 2000000 in
set_option maxRecDepth 100000 in
theorem copy_any (v : Value) (E : List Op5) (w : World) (hv : ReO w v E) (hl : E.length ≤ 1048576) (hA : ∀ e ∈ E, e.A.length ≤ 1048576) :
    Calls Tryd.prog 11 #[v] w fun r w' => ∃ v', r = .returned v' ∧ SpO w' w.heap.size w'.heap.size v' E ∧ Below w.heap.size w w' := by
  obtain ⟨D0, hrow, hre⟩ := hv
  have hDE := forall2_len hre
  obtain ⟨n, hn⟩ : ∃ n, D0.length = n := ⟨_, rfl⟩
  obtain ⟨p, cap, rfl, hcap, hnz, hc⟩ := hrow
  have HC : Hid (∀ (j : Nat) (d : OV), D0[j]? = some d → ∃ b off, p = some ⟨b, off, none⟩ ∧ OpAt w b (off + j * 7) d) := hc
  have HN : Hid (D0.length = n ∧ E.length = n) := ⟨hn, by rw [← hDE, hn]⟩
  have HE : Hid (ReD w D0 E ∧ ∀ e ∈ E, e.A.length ≤ 1048576) := ⟨hre, hA⟩
  have hl : n ≤ 1048576 := by rw [← hn, hDE]; exact hl
  rw [hn] at hcap ⊢
  clear hc hn hDE hre hA hnz
  have HS : Hid (∀ W, Below w.heap.size w W → ∀ (s : Sl) (A : List A2), RN w (slV s) A → A.length ≤ 1048576 → Calls Tryd.prog 34 #[slV s] W fun r w' => ∃ s', r = .returned (slV s') ∧ SpA w' W.heap.size w'.heap.size s' A ∧ Below W.heap.size W w') := fun W hW s A h1 h2 => spA_any _ A W (h1.below hW).row h2
  have o0 := own_emptyO w w.heap.size (Nat.le_refl _)
  have b0 := (Below.refl w.heap.size w).alloc (Nat.le_refl _) (.cells #[] 26)
  obtain ⟨W0, hW0⟩ : ∃ W, W = w.alloc (.cells #[] 26) := ⟨_, rfl⟩
  obtain ⟨v0, hv0⟩ : ∃ v0 : Value, v0 = .slice (some ⟨w.heap.size, 0, none⟩) 0 0 := ⟨_, rfl⟩
  rw [← hW0, ← hv0] at o0
  rw [← hW0] at b0
  go_enter Tryd.func11, Tryd.ntmps11
  go_wp2
  rw [← hW0, ← hv0]
  clear hW0 hv0
  go_loopw [3, 9] (fun o i wr => ∃ (k : Nat) (D : List OV), k ≤ n ∧ i = .int .i64 k ∧ D.length = k ∧ OwnO wr w.heap.size o D ∧ SpD wr w.heap.size wr.heap.size D (E.take k) ∧ Below w.heap.size w wr) (fun _ i _ => n - (RowKit.intOf i).toNat)
  case atStart => exact ⟨0, [], Nat.zero_le _, rfl, rfl, o0, .nil, b0⟩
  case round =>
    clear o0 b0
    obtain ⟨k, D, hk, rfl, hDl, hown, hsp, hbw⟩ := hrel
    by_cases hlt : k < n
    · have hltI : (k : Int) < n := by omega
      obtain ⟨d, hd⟩ : ∃ d, D0[k]? = some d := ⟨_, List.getElem?_eq_getElem (by rw [HN.out.1]; exact hlt)⟩
      obtain ⟨e, he, hr⟩ := forall2_get HE.out.1 k d hd
      obtain ⟨b, off, rfl, hp⟩ := HC.out k d hd
      obtain ⟨c0, c1, c2, c3, c4, c5, c6⟩ := hp.below hbw
      have cS := HS.out _ (hbw.alloc hbw.size (.cells (ovC d) 26)) d.2.2.2.2 e.A hr.2.2.2.2 (HE.out.2 e (List.mem_of_getElem? he))
      have HT : Hid (E.take (k + 1) = E.take k ++ [e]) := by show _ = _; rw [List.take_add_one, he]; rfl
      have HR : Hid (d.1 = e.k ∧ d.2.1 = e.t ∧ d.2.2.1 = e.v ∧ d.2.2.2.1 = e.c) := ⟨hr.1, hr.2.1, hr.2.2.1, hr.2.2.2.1⟩
      have HO : Hid (OwnO wr w.heap.size u3 D ∧ SpD wr w.heap.size wr.heap.size D (E.take k)) := ⟨hown, hsp⟩
      clear hd he hr hp hown hsp
      obtain ⟨dk, dt, ⟨dx, dn, du⟩, dc, ds⟩ := d
      obtain ⟨dp, dl, dcap⟩ := ds
      simp only [slV, ovC] at c0 c1 c2 c3 c4 c5 c6 cS
      go_wp2_with fail
      refine cS.mono ?_; rintro r w5 ⟨⟨sp, sl, sc⟩, rfl, sp5, hb5⟩
      obtain ⟨W4, hW4⟩ : ∃ W, W = wr.alloc (.cells #[.int .i64 dk, .string dt, .int .i64 dx, .int .i64 dn, .string du, .int .i64 dc, .slice dp dl dcap] 26) := ⟨_, rfl⟩
      rw [← hW4] at sp5 hb5
      have D4 : OpAt W4 wr.heap.size 0 (dk, dt, (dx, dn, du), dc, dp, dl, dcap) := by rw [hW4]; exact ⟨by simp, by simp, by simp, by simp, by simp, by simp, by simp⟩
      have b4 : Below wr.heap.size wr W4 := by rw [hW4]; exact (Below.refl _ _).alloc (Nat.le_refl _) _
      have s4 : W4.heap.size = wr.heap.size + 1 := by rw [hW4]; simp
      have f4 : W4.frozen? ⟨wr.heap.size, 6, none⟩ = false := by rw [hW4]; simp
      clear hW4 cS
      have f5 := (hb5.frozen (p := ⟨wr.heap.size, 6, none⟩) D4.lt).trans f4
      have D5 := D4.below hb5
      obtain ⟨q0, q1, q2, q3, q4, q5, q6⟩ := D4.below hb5
      simp only [Nat.zero_add, slV] at q0 q1 q2 q3 q4 q5 q6
      have b5 := b4.trans (hb5.mono b4.size)
      have hs5 := hb5.size
      clear D4 f4 c0 c1 c2 c3 c4 c5 c6
      go_upto_region 6 with fail
      obtain ⟨W6, hW6⟩ : ∃ W, W = w5.setCell ⟨wr.heap.size, 6, none⟩ (.slice sp sl sc) := ⟨_, rfl⟩
      have hq : ∀ i, i ≠ 6 → W6.cell? ⟨wr.heap.size, i, none⟩ = w5.cell? ⟨wr.heap.size, i, none⟩ := fun i hi => by
        rw [hW6]; exact World.cell?_setCell_other _ _ _ _ (fun e => by cases e; omega)
      have r0 := (hq 0 (by decide)).trans q0
      have r1 := (hq 1 (by decide)).trans q1
      have r2 := (hq 2 (by decide)).trans q2
      have r3 := (hq 3 (by decide)).trans q3
      have r4 := (hq 4 (by decide)).trans q4
      have r5 := (hq 5 (by decide)).trans q5
      have r6 : W6.cell? ⟨wr.heap.size, 6, none⟩ = some (.slice sp sl sc) := by rw [hW6]; exact World.cell?_setCell_same' _ _ _ (by rw [q6]; rfl)
      have b6 : Below wr.heap.size wr W6 := by rw [hW6]; exact b5.setCell (Nat.le_refl _) _
      have sp6 : SpA W6 w.heap.size W6.heap.size (sp, sl, sc) e.A := by
        have h1 := (sp5.setBelow (g := wr.heap.size) (by omega) 6 (.slice sp sl sc)).lower (lo' := w.heap.size) (by have := hbw.size; omega)
        rw [← hW6] at h1
        exact h1.upto (Below.refl _ _) (by rw [hW6]; simp)
      rw [← hW6]
      clear hW6 hq q0 q1 q2 q3 q4 q5 q6 D5 f5 b5 sp5 hb5 b4
      have ba : Below W6.heap.size W6 (W6.alloc (.cells #[.int .i64 dk, .string dt, .int .i64 dx, .int .i64 dn, .string du, .int .i64 dc, .slice sp sl sc] 26)) := (Below.refl _ _).alloc (Nat.le_refl _) _
      have b7 := b6.trans (ba.mono b6.size)
      have HO7 : Hid (OwnO (W6.alloc (.cells #[.int .i64 dk, .string dt, .int .i64 dx, .int .i64 dn, .string du, .int .i64 dc, .slice sp sl sc] 26)) w.heap.size u3 D ∧ OpAt (W6.alloc (.cells #[.int .i64 dk, .string dt, .int .i64 dx, .int .i64 dn, .string du, .int .i64 dc, .slice sp sl sc] 26)) W6.heap.size 0 (dk, dt, (dx, dn, du), dc, sp, sl, sc)) := ⟨owns_below HO.out.1 b7, ⟨by simp, by simp, by simp, by simp, by simp, by simp, by simp⟩⟩
      have HP7 : Hid (SpD (W6.alloc (.cells #[.int .i64 dk, .string dt, .int .i64 dx, .int .i64 dn, .string du, .int .i64 dc, .slice sp sl sc] 26)) w.heap.size (W6.alloc (.cells #[.int .i64 dk, .string dt, .int .i64 dx, .int .i64 dn, .string du, .int .i64 dc, .slice sp sl sc] 26)).heap.size (D ++ [(dk, dt, (dx, dn, du), dc, sp, sl, sc)]) (E.take (k + 1))) := by
        show SpD _ _ _ _ _
        rw [HT.out]
        refine spD_snoc (HO.out.2.upto b7 b7.size) ⟨HR.out.1, HR.out.2.1, HR.out.2.2.1, HR.out.2.2.2, sp6.below ba ba.size⟩
      have hge : Hid (∀ j, u3.ownBlock = some j → w.heap.size ≤ j) := fun j hj => (owns_block HO.out.1 j hj).1
      have bw7 := hbw.trans (b7.mono hbw.size)
      have hlen : D.length ≤ 33554432 := by omega
      clear sp6 ba b7 b6 HO HT HR
      go_wp2_with (at_builtin; refine wpList_append_ops rfl (.tmp 17) (.tmp 19) rfl w.heap.size u3 D rfl HO7.out.1 W6.heap.size 1 _ rfl HO7.out.2 hlen bw7.size ?_; intro v8 w8 own8 gr8 hat8)
      have hsp8 := HP7.out.keep (keepA_grownO HO7.out.1 gr8) gr8.size
      have b8 := bw7.grown gr8 bw7.size (fun j hj => hge.out j hj)
      go_roundw
      case rel => exact ⟨k + 1, _, by omega, by go_num, by simp [hDl], own8, hsp8, b8⟩
      case measure => simp [RowKit.intOf]; omega
    · have hltI : ¬ (k : Int) < n := by omega
      have hkn : k = n := by omega
      have hE : E.take k = E := List.take_of_length_le (by rw [HN.out.2]; omega)
      rw [hE] at hsp
      have ba : Below wr.heap.size wr (wr.alloc (.cells #[.int .i64 77, .string ⟨#[]⟩, .int .i64 0, .int .i64 0, .string ⟨#[]⟩, .int .i64 0, .slice none 0 0] 26)) := (Below.refl _ _).alloc (Nat.le_refl _) _
      have HO7 : Hid (OwnO (wr.alloc (.cells #[.int .i64 77, .string ⟨#[]⟩, .int .i64 0, .int .i64 0, .string ⟨#[]⟩, .int .i64 0, .slice none 0 0] 26)) w.heap.size u3 D ∧ OpAt (wr.alloc (.cells #[.int .i64 77, .string ⟨#[]⟩, .int .i64 0, .int .i64 0, .string ⟨#[]⟩, .int .i64 0, .slice none 0 0] 26)) wr.heap.size 0 d77) := ⟨owns_below hown ba, ⟨by simp, by simp, by first | (simp; done) | simp [z0], by first | (simp; done) | simp [z0], by first | (simp; done) | simp [z0], by simp, by simp⟩⟩
      have HP7 : Hid (SpD (wr.alloc (.cells #[.int .i64 77, .string ⟨#[]⟩, .int .i64 0, .int .i64 0, .string ⟨#[]⟩, .int .i64 0, .slice none 0 0] 26)) w.heap.size (wr.alloc (.cells #[.int .i64 77, .string ⟨#[]⟩, .int .i64 0, .int .i64 0, .string ⟨#[]⟩, .int .i64 0, .slice none 0 0] 26)).heap.size D E) := hsp.below ba ba.size
      have hge : Hid (∀ j, u3.ownBlock = some j → w.heap.size ≤ j) := fun j hj => (owns_block hown j hj).1
      have bw7 := hbw.trans (ba.mono hbw.size)
      have hlen : D.length ≤ 33554432 := by omega
      have HL : Hid (D.length = n) := by show _ = _; omega
      clear hown hsp ba hbw hDl
      go_wp2_with (at_builtin; refine wpList_append_ops rfl (.tmp 22) (.tmp 24) rfl w.heap.size u3 D rfl HO7.out.1 wr.heap.size 1 d77 rfl HO7.out.2 hlen bw7.size ?_; intro v8 w8 own8 gr8 hat8; have hsp8 : Hid (SpD w8 w.heap.size w8.heap.size D E) := HP7.out.keep (keepA_grownO HO7.out.1 gr8) gr8.size; have b8 := bw7.grown gr8 bw7.size (fun j hj => hge.out j hj); obtain ⟨p8, c8, e8, hc8, _, _⟩ := own_rowO own8; rw [show (D ++ [d77]).length = n + 1 by simp [HL.out]] at e8 hc8; subst e8; have HO8 : Hid (OwnO w8 w.heap.size (.slice p8 (n + 1) c8) (D ++ [d77])) := own8; have hcI : n ≤ c8 := (by omega); clear own8 gr8 hat8 HO7 HP7 bw7)
      go_ret
      have hO := HO8.out
      rcases hO.2 with ⟨h1, h2⟩ | ⟨g, cap', cur, h1, h2, h3, h4, h5, h6, h7⟩
      · simp at h2
      · simp only [Value.slice.injEq] at h1
        obtain ⟨rfl, -, rfl⟩ := h1
        refine ⟨_, rfl, ⟨g, c8, D, by rw [HN.out.2]; rfl, h2, (Array.getElem?_eq_some_iff.1 h3).1, by rw [HL.out, HN.out.2], ?_, hsp8.out⟩, b8⟩
        rw [show (D ++ [d77]).length = n + 1 by simp [HL.out]]
        exact hO
end Go.Proofs.YtecmdlecfddeeaaDoor

/- vellumref04.SameOps and vellumspare.Kept at operations that are the same. -/
namespace Go.Proofs.YtecmdlecfddeeaaDoor
open Go Go.RowKit Go.Lib
set_option linter.unusedVariables false

set_option maxHeartbeats 2000000 in
set_option maxRecDepth 100000 in
theorem sameOps_any (v v' : Value) (E : List Op5) (w : World) (h : ReO w v E) (h' : ReO w v' E) (hl : E.length ≤ 1048576) (hA : ∀ e ∈ E, e.A.length ≤ 1048576) :
    Calls Tryd.prog 44 #[v, v'] w fun r w' => r = .returned (.bool true) ∧ Below w.heap.size w w' := by
  obtain ⟨D, hrow, hre⟩ := h
  obtain ⟨D', hrow', hre'⟩ := h'
  have hE := forall2_len hre
  have hE' := forall2_len hre'
  obtain ⟨n, hn⟩ : ∃ n, D.length = n := ⟨_, rfl⟩
  have hm : D'.length = n := by omega
  obtain ⟨pa, ca, rfl, ha, _, hca⟩ := hrow
  obtain ⟨pb, cb, rfl, hb, _, hcb⟩ := hrow'
  rw [hn] at ha hE ⊢
  rw [hm] at hb hE' ⊢
  have HN : Hid (D.length = n ∧ D'.length = n ∧ E.length = n) := ⟨hn, hm, hE.symm⟩
  have HA : Hid (∀ (j : Nat) (d : OV), D[j]? = some d → ∃ b off, pa = some ⟨b, off, none⟩ ∧ OpAt w b (off + j * 7) d) := hca
  have HB : Hid (∀ (j : Nat) (d : OV), D'[j]? = some d → ∃ b off, pb = some ⟨b, off, none⟩ ∧ OpAt w b (off + j * 7) d) := hcb
  have hl : n ≤ 1048576 := by omega
  have CC : Hid (∀ W (k : Nat) d d', Below w.heap.size w W → D[k]? = some d → D'[k]? = some d' → Calls Tryd.prog 25 #[ovV d, ovV d'] W fun r w' => r = .returned (.bool true) ∧ Below W.heap.size W w') := fun W k d d' hW h1 h2 => by
    obtain ⟨y, hy, r1⟩ := forall2_get (hre.below hW) k d h1
    obtain ⟨y', hy', r2⟩ := forall2_get (hre'.below hW) k d' h2
    obtain rfl : y = y' := Option.some.inj (hy.symm.trans hy')
    have hly := hA y (List.mem_of_getElem? hy)
    have := sameR_any y y (slV d.2.2.2.2) (slV d'.2.2.2.2) W r1.2.2.2.2.row r2.2.2.2.2.row (by omega) (by omega)
    rw [decide_eq_true rfl] at this
    obtain ⟨e1, e2, e3, e4, _⟩ := r1
    obtain ⟨g1, g2, g3, g4, _⟩ := r2
    obtain ⟨dk, dt, dv, dc, ds⟩ := d
    obtain ⟨dk', dt', dv', dc', ds'⟩ := d'
    simp only at e1 e2 e3 e4 g1 g2 g3 g4
    subst e1 e2 e3 e4 g1 g2 g3 g4
    exact this
  clear hca hcb hn hm hre hre' hE hE' hA
  go_enter Tryd.func44, Tryd.ntmps44
  go_wp2
  go_loopw [14, 5, 6] (fun i _ _ wr => ∃ (k : Nat), k ≤ n ∧ i = .int .i64 k ∧ Below w.heap.size w wr) (fun i _ _ _ => n - (RowKit.intOf i).toNat)
  case atStart => exact ⟨0, Nat.zero_le _, rfl, Below.refl _ _⟩
  case round =>
    obtain ⟨k, hk, rfl, hbw⟩ := hrel
    by_cases hlt : k < n
    · have hltI : (k : Int) < n := by omega
      obtain ⟨d, hd⟩ : ∃ q, D[k]? = some q := ⟨_, List.getElem?_eq_getElem (by rw [HN.out.1]; exact hlt)⟩
      obtain ⟨d', hd'⟩ : ∃ q, D'[k]? = some q := ⟨_, List.getElem?_eq_getElem (by rw [HN.out.2.1]; exact hlt)⟩
      have cc := fun W hW => CC.out W k d d' hW hd hd'
      obtain ⟨b, off, rfl, hin⟩ := HA.out k d hd
      obtain ⟨b', off', rfl, hin'⟩ := HB.out k d' hd'
      obtain ⟨c0, c1, c2, c3, c4, c5, c6⟩ := hin.below hbw
      obtain ⟨d0, d1, d2, d3, d4, d5, d6⟩ := hin'.below hbw
      clear hin hin' hd hd'
      obtain ⟨f, t, ⟨x, z, u⟩, cc1, p, j, c⟩ := d
      obtain ⟨f', t', ⟨x', z', u'⟩, cc1', p', j', c'⟩ := d'
      simp only [slV] at c0 c1 c2 c3 c4 c5 c6 d0 d1 d2 d3 d4 d5 d6
      simp only [ovV, ovC, slV] at cc
      have HU : Hid (∀ w', Below wr.drew.heap.size wr.drew w' → (w'.cell? ⟨b, off + k * 7, none⟩ = some (.int .i64 f) ∧ w'.cell? ⟨b, off + k * 7 + 1, none⟩ = some (.string t) ∧ w'.cell? ⟨b, off + k * 7 + 2, none⟩ = some (.int .i64 x) ∧ w'.cell? ⟨b, off + k * 7 + 3, none⟩ = some (.int .i64 z) ∧ w'.cell? ⟨b, off + k * 7 + 4, none⟩ = some (.string u) ∧ w'.cell? ⟨b, off + k * 7 + 5, none⟩ = some (.int .i64 cc1) ∧ w'.cell? ⟨b, off + k * 7 + 6, none⟩ = some (.slice p j c) ∧ w'.cell? ⟨b', off' + k * 7, none⟩ = some (.int .i64 f') ∧ w'.cell? ⟨b', off' + k * 7 + 1, none⟩ = some (.string t') ∧ w'.cell? ⟨b', off' + k * 7 + 2, none⟩ = some (.int .i64 x') ∧ w'.cell? ⟨b', off' + k * 7 + 3, none⟩ = some (.int .i64 z') ∧ w'.cell? ⟨b', off' + k * 7 + 4, none⟩ = some (.string u') ∧ w'.cell? ⟨b', off' + k * 7 + 5, none⟩ = some (.int .i64 cc1') ∧ w'.cell? ⟨b', off' + k * 7 + 6, none⟩ = some (.slice p' j' c'))) := fun w' hb => ⟨(hb.cell (lt_of_cell (w := wr.drew) c0)).trans c0, (hb.cell (lt_of_cell (w := wr.drew) c1)).trans c1, (hb.cell (lt_of_cell (w := wr.drew) c2)).trans c2, (hb.cell (lt_of_cell (w := wr.drew) c3)).trans c3, (hb.cell (lt_of_cell (w := wr.drew) c4)).trans c4, (hb.cell (lt_of_cell (w := wr.drew) c5)).trans c5, (hb.cell (lt_of_cell (w := wr.drew) c6)).trans c6, (hb.cell (lt_of_cell (w := wr.drew) d0)).trans d0, (hb.cell (lt_of_cell (w := wr.drew) d1)).trans d1, (hb.cell (lt_of_cell (w := wr.drew) d2)).trans d2, (hb.cell (lt_of_cell (w := wr.drew) d3)).trans d3, (hb.cell (lt_of_cell (w := wr.drew) d4)).trans d4, (hb.cell (lt_of_cell (w := wr.drew) d5)).trans d5, (hb.cell (lt_of_cell (w := wr.drew) d6)).trans d6⟩
      have hz0 : w.heap.size ≤ wr.drew.heap.size := hbw.size
      go_wp2_with fail
      go_region_held3 (fun w' => (w'.cell? ⟨b, off + k * 7, none⟩ = some (.int .i64 f) ∧ w'.cell? ⟨b, off + k * 7 + 1, none⟩ = some (.string t) ∧ w'.cell? ⟨b, off + k * 7 + 2, none⟩ = some (.int .i64 x) ∧ w'.cell? ⟨b, off + k * 7 + 3, none⟩ = some (.int .i64 z) ∧ w'.cell? ⟨b, off + k * 7 + 4, none⟩ = some (.string u) ∧ w'.cell? ⟨b, off + k * 7 + 5, none⟩ = some (.int .i64 cc1) ∧ w'.cell? ⟨b, off + k * 7 + 6, none⟩ = some (.slice p j c) ∧ w'.cell? ⟨b', off' + k * 7, none⟩ = some (.int .i64 f') ∧ w'.cell? ⟨b', off' + k * 7 + 1, none⟩ = some (.string t') ∧ w'.cell? ⟨b', off' + k * 7 + 2, none⟩ = some (.int .i64 x') ∧ w'.cell? ⟨b', off' + k * 7 + 3, none⟩ = some (.int .i64 z') ∧ w'.cell? ⟨b', off' + k * 7 + 4, none⟩ = some (.string u') ∧ w'.cell? ⟨b', off' + k * 7 + 5, none⟩ = some (.int .i64 cc1') ∧ w'.cell? ⟨b', off' + k * 7 + 6, none⟩ = some (.slice p' j' c')) ∧ Below w.heap.size w w')
        (exact ⟨by first | (with_reducible assumption) | (simp [*]; done), by first | (with_reducible assumption) | exact hbw.drew⟩)
        (first | (go_at_call 25; refine (cc _ ?_).mono ?_; (· first | assumption | exact hbw.drew | (apply And.right; assumption)); rintro r w3 ⟨rfl, b3⟩; have b4 : Below w.heap.size w w3 := (hbw.drew).trans (b3.mono hz0); have mm := HU.out _ b3))
      clear cc mm b3
      go_wp2
      go_roundw
      case rel => exact ⟨k + 1, by omega, by go_num, b4⟩
      case measure => simp [RowKit.intOf]; omega
    · have hltI : ¬ (k : Int) < n := by omega
      go_wp2
      go_ret
      exact ⟨rfl, hbw⟩

set_option maxHeartbeats 2000000 in
set_option maxRecDepth 100000 in
theorem keptO_any (v v' : Value) (E : List Op5) (lo hi : Nat) (w : World) (h : SpO w lo hi v E) (h' : ReO w v' E) (hl : E.length ≤ 1048576) (hA : ∀ e ∈ E, e.A.length ≤ 1048576) :
    Calls Tryd.prog 17 #[v, v'] w fun r w' => r = .returned (.bool true) ∧ Below w.heap.size w w' := by
  have cS := sameOps_any v v' E w h.re h' hl hA
  obtain ⟨g, cap, D, rfl, hlo, hhi, hDE, hown, hsp⟩ := h
  obtain ⟨n, hn⟩ : ∃ n, E.length = n := ⟨_, rfl⟩
  have hcap : n + 1 ≤ cap := by
    obtain ⟨p, c, he, hc, _, _⟩ := own_rowO hown
    simp only [Value.slice.injEq] at he
    obtain ⟨-, -, rfl⟩ := he
    simp [hDE, hn] at hc
    omega
  have h77 : w.cell? ⟨g, n * 7, none⟩ = some (.int .i64 77) := by
    have := (own_opAt hown n d77 (by rw [List.getElem?_append_right (by omega), hDE, hn]; simp)).c0
    rwa [Nat.zero_add] at this
  have HO : Hid (∀ j d, D[j]? = some d → OpAt w g (0 + j * 7) d) := fun j d hd => own_opAt hown j d (by rw [List.getElem?_append_left (List.getElem?_eq_some_iff.1 hd).1]; exact hd)
  have HS : Hid (SpD w lo hi D E) := hsp
  have HL : Hid (D.length = n ∧ E.length = n ∧ ∀ e ∈ E, e.A.length ≤ 1048576) := ⟨by rw [hDE, hn], hn, hA⟩
  obtain ⟨D', ⟨pb, cb, rfl, hcb, _, _⟩, hre'⟩ := h'
  have hE' := forall2_len hre'
  rw [hn] at hl cS ⊢
  rw [show D'.length = n by omega] at cS hcb ⊢
  clear hDE hn hown hsp hA hre' hE'
  have q1 := beq_key (x := ⟨#[115, 112, 97, 114, 101]⟩) (y := ⟨#[115, 112, 97, 114, 101]⟩) true (decide_eq_true rfl)
  go_enter Tryd.func17, Tryd.ntmps17
  go_wp2_with fail
  refine cS.mono ?_; rintro r w2 ⟨rfl, hb2⟩
  have e77 := (hb2.cell (lt_of_cell h77)).trans h77
  clear cS h77
  go_wp2_with fail
  go_loopw [8, 29] (fun _ i wr => ∃ (k : Nat), k ≤ n ∧ i = .int .i64 k ∧ Below w.heap.size w wr) (fun _ i _ => n - (RowKit.intOf i).toNat)
  case atStart => exact ⟨0, Nat.zero_le _, rfl, hb2⟩
  case round =>
    clear hb2 e77
    obtain ⟨k, hk, rfl, hbw⟩ := hrel
    by_cases hlt : k < n
    · have hltI : (k : Int) < n := by omega
      obtain ⟨d, hd⟩ : ∃ q, D[k]? = some q := ⟨_, List.getElem?_eq_getElem (by rw [HL.out.1]; exact hlt)⟩
      obtain ⟨e, he, hr⟩ := forall2_get HS.out k d hd
      obtain ⟨c0, c1, c2, c3, c4, c5, c6⟩ := (HO.out k d hd).below hbw
      have hs := hr.2.2.2.2.below hbw (Nat.le_refl _)
      have hal := HL.out.2.2 e (List.mem_of_getElem? he)
      clear hd he hr
      obtain ⟨f, t, ⟨x, z, u⟩, cc1, s⟩ := d
      rw [Nat.zero_add] at c0 c1 c2 c3 c4 c5 c6
      simp only at c0 c1 c2 c3 c4 c5 c6 hs
      have bA : ∀ o, Below w.heap.size w (wr.alloc o) := fun o => hbw.alloc hbw.size o
      rcases hs with ⟨h1, rfl⟩ | ⟨ga, cc, h1, rfl, h3, h4, h5, h6⟩
      · simp only [slV] at c6
        clear h1
        go_wp2_with fail
        go_roundw
        case rel => exact ⟨k + 1, by omega, by go_num, bA _⟩
        case measure => simp [RowKit.intOf]; omega
      · simp only [slV] at c6
        obtain ⟨m, hm⟩ : ∃ m, e.A.length = m := ⟨_, rfl⟩
        have hm0 : 0 < m := by rcases Nat.eq_zero_or_pos m with h0 | h0; exact absurd (List.eq_nil_of_length_eq_zero (hm.trans h0)) h1; exact h0
        have hm0I : (0 : Int) < (m : Int) := by omega
        obtain ⟨p9, c9, e9, hc9, hr9⟩ := own_rowA h6
        simp only [Value.slice.injEq] at e9
        obtain ⟨rfl, -, rfl⟩ := e9
        have hc9' : m + 1 ≤ cc := by simp [hm] at hc9; omega
        obtain ⟨b9, o9, hp9, hat⟩ := hr9 m s1 (by rw [List.getElem?_append_right (by omega), hm]; simp)
        simp only [Option.some.injEq, Addr.mk.injEq, and_true] at hp9
        obtain ⟨rfl, rfl⟩ := hp9
        have k0 := hat.c0
        rw [Nat.zero_add] at k0
        simp only at k0
        have hga : ga < wr.heap.size := lt_of_cell k0
        have hg1 : ¬ ga = wr.heap.size := by omega
        have hg2 : ¬ wr.heap.size = ga := by omega
        rw [hm] at hal c6
        clear h1 h3 h4 h5 h6 hr9 hat hc9 hm
        go_wp2_with fail
        go_roundw
        case rel => exact ⟨k + 1, by omega, by go_num, bA _⟩
        case measure => simp [RowKit.intOf]; omega
    · have hltI : ¬ (k : Int) < n := by omega
      go_wp2
      go_ret
      exact ⟨rfl, hbw⟩
end Go.Proofs.YtecmdlecfddeeaaDoor

/- vellumspare.Spoil: writes over operations and their lists, and nothing else. -/
namespace Go.Proofs.YtecmdlecfddeeaaDoor
open Go Go.RowKit Go.Lib
set_option linter.unusedVariables false

theorem cell_at {w : World} {g : Nat} {cur : Array Value} {e : TypeId} (h : w.heap[g]? = some (.cells cur e (0, 0))) (j : Nat) (hj : j < cur.size) : ∃ u, w.cell? ⟨g, j, none⟩ = some u :=
  ⟨cur[j], by simp [World.cell?, h, hj]⟩
theorem out_set4 {lo hi : Nat} {w W : World} (h : Out lo hi w W) {g : Nat} (h1 : lo ≤ g) (h2 : g < hi) (a b c d : Nat) (u0 u1 u2 u3 : Value) :
    Out lo hi w ((((W.setCell ⟨g, a, none⟩ u0).setCell ⟨g, b, none⟩ u1).setCell ⟨g, c, none⟩ u2).setCell ⟨g, d, none⟩ u3) :=
  (((h.setCell g a u0 h1 h2).setCell g b u1 h1 h2).setCell g c u2 h1 h2).setCell g d u3 h1 h2
theorem set4_other (W : World) {g k : Nat} (hk : k ≠ g) (a b c d i : Nat) (u0 u1 u2 u3 : Value) :
    ((((W.setCell ⟨g, a, none⟩ u0).setCell ⟨g, b, none⟩ u1).setCell ⟨g, c, none⟩ u2).setCell ⟨g, d, none⟩ u3).cell? ⟨k, i, none⟩ = W.cell? ⟨k, i, none⟩ := by
  refine World.cell?_of_block (a := ⟨k, i, none⟩) ?_
  have h : ∀ (W : World) (j : Nat) (v : Value), (W.setCell ⟨g, j, none⟩ v).heap[k]? = W.heap[k]? := fun W j v => Below.heap_setCell _ _ _ _ hk
  rw [h, h, h, h]

theorem out_set7 {lo hi : Nat} {w W : World} (h : Out lo hi w W) {g : Nat} (h1 : lo ≤ g) (h2 : g < hi) (o : Nat) (u0 u1 u2 u3 u4 u5 u6 : Value) :
    Out lo hi w (((((((W.setCell ⟨g, o, none⟩ u0).setCell ⟨g, o + 1, none⟩ u1).setCell ⟨g, o + 2, none⟩ u2).setCell ⟨g, o + 3, none⟩ u3).setCell ⟨g, o + 4, none⟩ u4).setCell ⟨g, o + 5, none⟩ u5).setCell ⟨g, o + 6, none⟩ u6) :=
  ((((((h.setCell g _ u0 h1 h2).setCell g _ u1 h1 h2).setCell g _ u2 h1 h2).setCell g _ u3 h1 h2).setCell g _ u4 h1 h2).setCell g _ u5 h1 h2).setCell g _ u6 h1 h2
theorem set7_far (W : World) {g o i : Nat} (hi : o + 7 ≤ i) (u0 u1 u2 u3 u4 u5 u6 : Value) :
    (((((((W.setCell ⟨g, o, none⟩ u0).setCell ⟨g, o + 1, none⟩ u1).setCell ⟨g, o + 2, none⟩ u2).setCell ⟨g, o + 3, none⟩ u3).setCell ⟨g, o + 4, none⟩ u4).setCell ⟨g, o + 5, none⟩ u5).setCell ⟨g, o + 6, none⟩ u6).cell? ⟨g, i, none⟩ = W.cell? ⟨g, i, none⟩ := by
  have h : ∀ (W : World) (j : Nat) (v : Value), j < i → (W.setCell ⟨g, j, none⟩ v).cell? ⟨g, i, none⟩ = W.cell? ⟨g, i, none⟩ := fun W j v hj => World.cell?_setCell_other _ _ _ _ (fun e => by cases e; omega)
  rw [h _ _ _ (by omega), h _ _ _ (by omega), h _ _ _ (by omega), h _ _ _ (by omega), h _ _ _ (by omega), h _ _ _ (by omega), h _ _ _ (by omega)]
theorem OpAt.far (W : World) {g o j : Nat} {d : OV} (h : OpAt W g j d) (hi : o + 7 ≤ j) (u0 u1 u2 u3 u4 u5 u6 : Value) :
    OpAt (((((((W.setCell ⟨g, o, none⟩ u0).setCell ⟨g, o + 1, none⟩ u1).setCell ⟨g, o + 2, none⟩ u2).setCell ⟨g, o + 3, none⟩ u3).setCell ⟨g, o + 4, none⟩ u4).setCell ⟨g, o + 5, none⟩ u5).setCell ⟨g, o + 6, none⟩ u6) g j d :=
  ⟨(set7_far W (by omega) ..).trans h.c0, (set7_far W (by omega) ..).trans h.c1, (set7_far W (by omega) ..).trans h.c2, (set7_far W (by omega) ..).trans h.c3, (set7_far W (by omega) ..).trans h.c4, (set7_far W (by omega) ..).trans h.c5, (set7_far W (by omega) ..).trans h.c6⟩

set_option maxHeartbeats 2000000 in
set_option maxRecDepth 100000 in
theorem spoil_any (v : Value) (E : List Op5) (lo hi : Nat) (w : World) (h : SpO w lo hi v E) (hl : E.length ≤ 1048576) (hA : ∀ e ∈ E, e.A.length ≤ 1048576) :
    Calls Tryd.prog 22 #[v] w fun r w' => r = .returned (.tuple #[]) ∧ Out lo hi w w' := by
  obtain ⟨g, cap, D, rfl, hlo, hhi, hDE, hown, hsp⟩ := h
  obtain ⟨n, hn⟩ : ∃ n, E.length = n := ⟨_, rfl⟩
  have HB : Hid (∃ cur, w.heap[g]? = some (.cells cur 26 (0, 0)) ∧ n * 7 + 7 ≤ cur.size) := by
    rcases hown.2 with ⟨h1, h2⟩ | ⟨g', cap', cur, h1, h2, h3, h4, h5, h6, h7⟩
    · simp at h2
    · simp only [Value.slice.injEq, Option.some.injEq, Addr.mk.injEq, and_true, true_and] at h1
      obtain ⟨rfl, -, rfl⟩ := h1
      refine ⟨cur, h3, ?_⟩
      have : (D ++ [d77]).length = n + 1 := by simp [hDE, hn]
      rw [this] at h4
      rw [h6]
      omega
  have HO : Hid (∀ j d, D[j]? = some d → OpAt w g (0 + j * 7) d) := fun j d hd => own_opAt hown j d (by rw [List.getElem?_append_left (List.getElem?_eq_some_iff.1 hd).1]; exact hd)
  have HS : Hid (SpD w lo hi D E) := hsp
  have HL : Hid (D.length = n ∧ E.length = n ∧ ∀ e ∈ E, e.A.length ≤ 1048576) := ⟨by rw [hDE, hn], hn, hA⟩
  have hcI : n ≤ cap := by
    rcases hown.2 with ⟨h1, h2⟩ | ⟨g', cap', cur, h1, h2, h3, h4, h5, h6, h7⟩
    · simp at h2
    · simp only [Value.slice.injEq, Option.some.injEq, Addr.mk.injEq, and_true, true_and] at h1
      obtain ⟨rfl, -, rfl⟩ := h1
      have : (D ++ [d77]).length = n + 1 := by simp [hDE, hn]
      omega
  rw [hn] at hl ⊢
  clear hDE hn hown hsp hA
  go_enter Tryd.func22, Tryd.ntmps22
  go_wp2
  go_loopw [2, 3, 6] (fun _ _ i wr => ∃ (k : Nat), k ≤ n ∧ i = .int .i64 k ∧ Out lo hi w wr ∧ Hid (∀ j d, k ≤ j → D[j]? = some d → OpAt wr g (0 + j * 7) d)) (fun _ _ i _ => n - (RowKit.intOf i).toNat)
  case atStart => exact ⟨0, Nat.zero_le _, rfl, Out.refl _ _ _, fun j d _ hd => HO.out j d hd⟩
  case round =>
    obtain ⟨k, hk, rfl, ho, H⟩ := hrel
    by_cases hlt : k < n
    · have hltI : (k : Int) < n := by omega
      obtain ⟨d, hd⟩ : ∃ d, D[k]? = some d := ⟨_, List.getElem?_eq_getElem (by rw [HL.out.1]; exact hlt)⟩
      obtain ⟨e, he, hr⟩ := forall2_get HS.out k d hd
      obtain ⟨c0, c1, c2, c3, c4, c5, c6⟩ := H.out k d (Nat.le_refl _) hd
      obtain ⟨m, hm⟩ : ∃ m, e.A.length = m := ⟨_, rfl⟩
      have hml : m ≤ 1048576 := by rw [← hm]; exact HL.out.2.2 e (List.mem_of_getElem? he)
      rw [Nat.zero_add] at c0 c1 c2 c3 c4 c5 c6
      obtain ⟨pa, ca, hpa⟩ : ∃ pa ca, d.2.2.2.2 = (pa, m, ca) := by
        rcases hr.2.2.2.2 with ⟨h1, h2⟩ | ⟨ga, cc, h1, h2, _⟩
        · exact ⟨none, 0, by rw [h2, ← hm, h1]; rfl⟩
        · exact ⟨_, _, by rw [h2, hm]⟩
      have HA : Hid (0 < m → ∃ ga, pa = some ⟨ga, 0, none⟩ ∧ lo ≤ ga ∧ ga < hi ∧ ga ≠ g ∧ ∀ W, Out lo hi w W → ∀ i, i < m * 4 → (∃ u, W.cell? ⟨ga, i, none⟩ = some u) ∧ W.frozen? ⟨ga, i, none⟩ = false) := fun h0 => by
        rcases hr.2.2.2.2 with ⟨h1, h2⟩ | ⟨ga, cc, h1, h2, h3, h4, h5, h6⟩
        · rw [h1] at hm; simp at hm; omega
        · rw [hpa] at h2
          simp only [Prod.mk.injEq] at h2
          obtain ⟨rfl, -, rfl⟩ := h2
          rcases h6.2 with ⟨h7, h8⟩ | ⟨g', cap', cur, h7, h8, h9, h10, h11, h12, h13⟩
          · simp at h8
          · simp only [Value.slice.injEq, Option.some.injEq, Addr.mk.injEq, and_true, true_and] at h7
            obtain ⟨rfl, -, rfl⟩ := h7
            refine ⟨ga, rfl, h3, h4, fun hg => ?_, fun W hW i hi => ?_⟩
            · subst hg
              obtain ⟨cur', hb, _⟩ := HB.out
              rw [hb] at h9
              simp only [Option.some.injEq, Obj.cells.injEq] at h9
              exact absurd h9.2.1 (by decide)
            · obtain ⟨cur', hb, hs⟩ := hW.shape ga cur _ _ h9 h4
              exact ⟨cell_at hb i (by rw [hs, h12]; omega), frozen_of_row W ga i cur' _ hb⟩
      have HD : Hid (OpAt w g (0 + k * 7) d ∧ D[k]? = some d) := ⟨HO.out k d hd, hd⟩
      rw [hpa] at c6
      clear hd he hr hm c0 c1 c2 c3 c4 c5 hpa
      simp only [slV] at c6
      go_wp2_with fail
      go_loopw [3, 15] (fun _ i wr => ∃ (l : Nat), l ≤ m ∧ i = .int .i64 l ∧ Out lo hi w wr ∧ Hid (∀ j d, k ≤ j → D[j]? = some d → OpAt wr g (0 + j * 7) d) ∧ wr.cell? ⟨g, k * 7 + 6, none⟩ = some (.slice pa m ca)) (fun _ i _ => m - (RowKit.intOf i).toNat)
      case atStart => exact ⟨0, Nat.zero_le _, rfl, ho, H, c6⟩
      case round =>
        clear ho H c6
        obtain ⟨l, hlm, rfl, ho, H, c6⟩ := hrel
        by_cases hlt2 : l < m
        · have hltI2 : (l : Int) < m := by omega
          obtain ⟨ga, rfl, hg1, hg2, hg3, hgc⟩ := HA.out (by omega)
          obtain ⟨⟨u0, e0⟩, f0⟩ := hgc _ ho (l * 4) (by omega)
          obtain ⟨⟨u1, e1⟩, f1⟩ := hgc _ ho (l * 4 + 1) (by omega)
          obtain ⟨⟨u2, e2⟩, f2⟩ := hgc _ ho (l * 4 + 2) (by omega)
          obtain ⟨⟨u3', e3⟩, f3⟩ := hgc _ ho (l * 4 + 3) (by omega)
          have hg4 : ¬ ga = g := hg3
          have hg5 : ¬ g = ga := fun h => hg3 h.symm
          have HG : Hid (lo ≤ ga ∧ ga < hi ∧ g ≠ ga) := ⟨hg1, hg2, hg5⟩
          have HOO : Hid (Out lo hi w wr) := ho
          clear hgc hg1 hg2 hg3 ho
          go_wp2_with fail
          go_roundw
          case rel =>
            refine ⟨l + 1, by omega, by go_num, out_set4 HOO.out HG.out.1 HG.out.2.1 _ _ _ _ _ _ _ _, fun j d hj hd => ?_, (set4_other _ HG.out.2.2 _ _ _ _ _ _ _ _ _).trans c6⟩
            exact (H.out j d hj hd).same fun i => set4_other _ HG.out.2.2 _ _ _ _ _ _ _ _ _
          case measure => simp [RowKit.intOf]; omega
        · have hltI2 : ¬ (l : Int) < m := by omega
          have fr : ∀ i, i < n * 7 + 7 → (∃ u, wr.cell? ⟨g, i, none⟩ = some u) ∧ wr.frozen? ⟨g, i, none⟩ = false := fun i hi' => by
            obtain ⟨cur, h1, h2⟩ := HB.out
            obtain ⟨cur', h3, h4⟩ := ho.shape g cur _ _ h1 hhi
            exact ⟨cell_at h3 i (by omega), frozen_of_row wr g i cur' _ h3⟩
          obtain ⟨⟨u0, e0⟩, f0⟩ := fr (k * 7) (by omega)
          obtain ⟨⟨u1, e1⟩, f1⟩ := fr (k * 7 + 1) (by omega)
          obtain ⟨⟨u2, e2⟩, f2⟩ := fr (k * 7 + 2) (by omega)
          obtain ⟨⟨u3', e3⟩, f3⟩ := fr (k * 7 + 3) (by omega)
          obtain ⟨⟨u4', e4⟩, f4⟩ := fr (k * 7 + 4) (by omega)
          obtain ⟨⟨u5', e5⟩, f5⟩ := fr (k * 7 + 5) (by omega)
          obtain ⟨-, f6⟩ := fr (k * 7 + 6) (by omega)
          have HOO : Hid (Out lo hi w wr) := ho
          clear fr ho
          go_wp2_with fail
          go_roundw
          case rel =>
            refine ⟨k + 1, by omega, by go_num, ?_, fun j d hj hd => ?_⟩
            · exact out_set7 HOO.out hlo hhi _ _ _ _ _ _ _ _
            · exact OpAt.far _ (H.out j d (by omega) hd) (by omega) _ _ _ _ _ _ _
          case measure => simp [RowKit.intOf]; omega
    · have hltI : ¬ (k : Int) < n := by omega
      go_wp2
      (try simp only [Exit.inBlock, Exit.then])
      refine bodyPost_end (results_none rfl _ _ _) rfl ?_
      exact ⟨rfl, ho⟩
end Go.Proofs.YtecmdlecfddeeaaDoor

/- Of all operations vellumlaw04.ContentJoins answers true: the walk. -/
namespace Go.Proofs.YtecmdlecfddeeaaDoor
open Go Go.RowKit Go.Lib
set_option linter.unusedVariables false

abbrev bx2 (w : World) (a b : Op5) (va vb : Value) : World := (w.alloc (.cells (opC a va) 26)).alloc (.cells (opC b vb) 26)
theorem bx2_below (w : World) (a b : Op5) (va vb : Value) : Below w.heap.size w (bx2 w a b va vb) := ((Below.refl w.heap.size w).alloc (Nat.le_refl _) _).alloc (by simp) _
theorem bx2_0 (w : World) (a b : Op5) (va vb : Value) : BoxO (bx2 w a b va vb) w.heap.size a va := (BoxO.new w a va).below ((Below.refl _ _).alloc (Nat.le_refl _) _)
theorem bx2_1 (w : World) (a b : Op5) (va vb : Value) : BoxO (bx2 w a b va vb) (w.heap.size + 1) b vb := by
  have h1 := BoxO.new (w.alloc (.cells (opC a va) 26)) b vb
  rw [World.size_alloc] at h1
  exact h1
/-- Two operations laid one behind the other. -/
theorem re_two (w : World) (a b : Op5) (pa pb : Sl) (ra : RN w (slV pa) a.A) (rb : RN w (slV pb) b.A) :
    ReO (w.alloc (.cells #[.int .i64 a.k, .string a.t, .int .i64 a.v.1, .int .i64 a.v.2.1, .string a.v.2.2, .int .i64 a.c, slV pa, .int .i64 b.k, .string b.t, .int .i64 b.v.1, .int .i64 b.v.2.1, .string b.v.2.2, .int .i64 b.c, slV pb] 26)) (.slice (some ⟨w.heap.size, 0, none⟩) 2 2) [a, b] := by
  have bb : ∀ o, Below w.heap.size w (w.alloc o) := fun o => (Below.refl _ _).alloc (Nat.le_refl _) o
  refine ⟨[(a.k, a.t, a.v, a.c, pa), (b.k, b.t, b.v, b.c, pb)], ⟨_, _, rfl, Nat.le_refl _, fun h => (by cases h), fun j d hd => ⟨_, _, rfl, ?_⟩⟩, .cons ⟨rfl, rfl, rfl, rfl, ra.below (bb _)⟩ (.cons ⟨rfl, rfl, rfl, rfl, rb.below (bb _)⟩ .nil)⟩
  match j, hd with
  | 0, hd => simp at hd; subst hd; exact ⟨by simp, by simp, by simp, by simp, by simp, by simp, by simp⟩
  | 1, hd => simp at hd; subst hd; exact ⟨by simp, by simp, by simp, by simp, by simp, by simp, by simp⟩
  | j + 2, hd => simp at hd
/-- What Copy made of two. -/
theorem spO_two {w : World} {lo hi : Nat} {v : Value} {a b : Op5} (h : SpO w lo hi v [a, b]) :
    ∃ g c s0 s1, v = .slice (some ⟨g, 0, none⟩) 2 c ∧ lo ≤ g ∧ g < hi ∧ 2 ≤ c ∧ OpAt w g 0 (a.k, a.t, a.v, a.c, s0) ∧ OpAt w g 7 (b.k, b.t, b.v, b.c, s1) ∧ SpA w lo hi s0 a.A ∧ SpA w lo hi s1 b.A := by
  obtain ⟨g, c, D, rfl, h2, h3, h4, h5, h6⟩ := h
  match D, h6 with
  | _, .cons (a := d0) r0 (.cons (a := d1) r1 .nil) =>
    obtain ⟨k0, t0, v0, c0, s0⟩ := d0
    obtain ⟨k1, t1, v1, c1, s1⟩ := d1
    obtain ⟨rfl, rfl, rfl, rfl, q0⟩ := r0
    obtain ⟨rfl, rfl, rfl, rfl, q1⟩ := r1
    have hc : 2 ≤ c := by
      obtain ⟨p, c', he, hc, _, _⟩ := own_rowO h5
      simp only [Value.slice.injEq] at he
      obtain ⟨-, -, rfl⟩ := he
      simp at hc
      omega
    have o0 := own_opAt h5 0 _ rfl
    have o1 := own_opAt h5 1 _ rfl
    exact ⟨g, c, s0, s1, rfl, h2, h3, hc, o0, o1, q0, q1⟩

/-- What Join answers of two, from a world on. -/
def JD (o : Op5) (s : Value) (o' : Op5) (s' : Value) (W0 : World) (X : Op5) (B : Bool) (E : Value) : Prop :=
  ∀ W, Below W0.heap.size W0 W → RN W s o.A → RN W s' o'.A → Calls Tryd.prog 26 #[opV o s, opV o' s'] W fun r w' => ∃ s1, r = .returned (.tuple #[opV X s1, .bool B, E]) ∧ OwnA w' W.heap.size s1 X.A ∧ Below W.heap.size W w'
/-- What Copy answers, from a world on. -/
def PC (E : List Op5) : Prop := ∀ W v, ReO W v E → Calls Tryd.prog 11 #[v] W fun r w' => ∃ v', r = .returned v' ∧ SpO w' W.heap.size w'.heap.size v' E ∧ Below W.heap.size W w'

theorem BoxO.out {w w' : World} {lo hi B : Nat} {o : Op5} {s : Value} (h : BoxO w B o s) (u : Out lo hi w w') (hB : hi ≤ B) : BoxO w' B o s := by
  have e : ∀ i, w'.cell? ⟨B, i, none⟩ = w.cell? ⟨B, i, none⟩ := fun i => World.cell?_of_block (a := ⟨B, i, none⟩) (u.block B (lt_of_cell h.d0) (Or.inr hB))
  exact ⟨(e _).trans h.d0, (e _).trans h.d1, (e _).trans h.d2, (e _).trans h.d3, (e _).trans h.d4, (e _).trans h.d5, (e _).trans h.d6⟩
theorem BoxO.stored {w : World} {B : Nat} {o : Op5} {s : Value} (h : BoxO w B o s) (o' : Op5) (s' : Value) :
    BoxO (((((((w.setCell ⟨B, 0, none⟩ (.int .i64 o'.k)).setCell ⟨B, 1, none⟩ (.string o'.t)).setCell ⟨B, 2, none⟩ (.int .i64 o'.v.1)).setCell ⟨B, 3, none⟩ (.int .i64 o'.v.2.1)).setCell ⟨B, 4, none⟩ (.string o'.v.2.2)).setCell ⟨B, 5, none⟩ (.int .i64 o'.c)).setCell ⟨B, 6, none⟩ s') B o' s' := by
  have hs : ∀ (W : World) (i : Nat) (v : Value), (W.cell? ⟨B, i, none⟩).isSome = true → (W.setCell ⟨B, i, none⟩ v).cell? ⟨B, i, none⟩ = some v := fun W i v hi => World.cell?_setCell_same' _ _ _ hi
  have ho : ∀ (W : World) (i j : Nat) (v : Value), i ≠ j → (W.setCell ⟨B, j, none⟩ v).cell? ⟨B, i, none⟩ = W.cell? ⟨B, i, none⟩ := fun W i j v hij => World.cell?_setCell_other _ _ _ _ (fun e => by cases e; exact hij rfl)
  obtain ⟨d0, d1, d2, d3, d4, d5, d6⟩ := h
  refine ⟨?_, ?_, ?_, ?_, ?_, ?_, ?_⟩
  · rw [ho _ 0 6 _ (by decide), ho _ 0 5 _ (by decide), ho _ 0 4 _ (by decide), ho _ 0 3 _ (by decide), ho _ 0 2 _ (by decide), ho _ 0 1 _ (by decide)]; exact hs _ _ _ (by rw [d0]; rfl)
  · rw [ho _ 1 6 _ (by decide), ho _ 1 5 _ (by decide), ho _ 1 4 _ (by decide), ho _ 1 3 _ (by decide), ho _ 1 2 _ (by decide)]; exact hs _ _ _ (by rw [ho _ 1 0 _ (by decide), d1]; rfl)
  · rw [ho _ 2 6 _ (by decide), ho _ 2 5 _ (by decide), ho _ 2 4 _ (by decide), ho _ 2 3 _ (by decide)]; exact hs _ _ _ (by rw [ho _ 2 1 _ (by decide), ho _ 2 0 _ (by decide), d2]; rfl)
  · rw [ho _ 3 6 _ (by decide), ho _ 3 5 _ (by decide), ho _ 3 4 _ (by decide)]; exact hs _ _ _ (by rw [ho _ 3 2 _ (by decide), ho _ 3 1 _ (by decide), ho _ 3 0 _ (by decide), d3]; rfl)
  · rw [ho _ 4 6 _ (by decide), ho _ 4 5 _ (by decide)]; exact hs _ _ _ (by rw [ho _ 4 3 _ (by decide), ho _ 4 2 _ (by decide), ho _ 4 1 _ (by decide), ho _ 4 0 _ (by decide), d4]; rfl)
  · rw [ho _ 5 6 _ (by decide)]; exact hs _ _ _ (by rw [ho _ 5 4 _ (by decide), ho _ 5 3 _ (by decide), ho _ 5 2 _ (by decide), ho _ 5 1 _ (by decide), ho _ 5 0 _ (by decide), d5]; rfl)
  · exact hs _ _ _ (by rw [ho _ 6 5 _ (by decide), ho _ 6 4 _ (by decide), ho _ 6 3 _ (by decide), ho _ 6 2 _ (by decide), ho _ 6 1 _ (by decide), ho _ 6 0 _ (by decide), d6]; rfl)
set_option maxHeartbeats 400000 in
theorem zero_any (o : Op5) (s : Value) (w : World) (hR : RN w s o.A) (hl : o.A.length ≤ 4194304) :
    Calls Tryd.prog 29 #[opV o s] w fun r w' => r = .returned (.bool (decide (o = opZ))) ∧ Below w.heap.size w w' := by
  have b0 := (Below.refl w.heap.size w).alloc (Nat.le_refl _) (.cells (opC o s) 26)
  have c := from_below b0 (sameR_any o opZ s nilS _ (hR.below b0).row (RowA.nil _ _ _) hl (by simp))
  obtain ⟨p, l, k, rfl⟩ : ∃ p l c, s = .slice p l c := by obtain ⟨p, c, h, _⟩ := hR.row.val; exact ⟨_, _, _, h⟩
  generalize decide (o = opZ) = R at c ⊢
  clear hR hl
  obtain ⟨k, t, ⟨x, n, u⟩, c', A⟩ := o
  simp only [opC] at c b0
  go_enter Tryd.func29, Tryd.ntmps29
  go_wp2_with fail
  refine c.mono ?_; rintro r w2 ⟨rfl, hb2⟩
  go_wp2
  go_ret
  exact ⟨rfl, hb2⟩

/-- What stands of a copy of two, from its making on. -/
structure Mine2 (W0 : World) (lo hi : Nat) (v : Value) (a b : Op5) (s0 s1 : Sl) (w : World) : Prop where
  le : W0.heap.size ≤ hi
  b0 : Below W0.heap.size W0 w
  hz : hi ≤ w.heap.size
  sp : SpO w lo hi v [a, b]
  sa : SpA w lo hi s0 a.A
  sb : SpA w lo hi s1 b.A
theorem SpO.upto {w w' : World} {lo hi : Nat} {v : Value} {E : List Op5} (h : SpO w lo hi v E) (b : Below hi w w') : SpO w' lo hi v E := by
  obtain ⟨g, c, D, h1, h2, h3, h4, h5, h6⟩ := h
  exact ⟨g, c, D, h1, h2, h3, h4, owns_same h5 fun k hk => b.block k (by simp only [Value.ownBlock, Option.some.injEq] at hk; omega), h6.upto b (Nat.le_refl _)⟩
theorem Mine2.upto {W0 w w' : World} {lo hi : Nat} {v : Value} {a b : Op5} {s0 s1 : Sl} (h : Mine2 W0 lo hi v a b s0 s1 w) (hb : Below hi w w') : Mine2 W0 lo hi v a b s0 s1 w' :=
  ⟨h.le, h.b0.trans (hb.mono h.le), Nat.le_trans h.hz hb.size, h.sp.upto hb, h.sa.upto hb (Nat.le_refl _), h.sb.upto hb (Nat.le_refl _)⟩

set_option maxHeartbeats 4000000 in
set_option maxRecDepth 100000 in
theorem joins_1 {ad : Nat → Addr} (a b : Op5) (va vb : Value) (w : World) (X : Op5) (B : Bool) (e : Nat)
    (cL : Calls Tryd.prog 9 #[] (bx2 w a b va vb) fun e w' => e = .returned (.bool true) ∧ Below (bx2 w a b va vb).heap.size (bx2 w a b va vb) w')
    (ra : RN (bx2 w a b va vb) va a.A) (rb : RN (bx2 w a b va vb) vb b.A) (cP : PC [a, b])
    (cJ : ∀ s s', JD a s b s' (bx2 w a b va vb) X B (errOf ad e)) (hX : X.A.length ≤ 4194304) (hXB : B = false → X = opZ)
    (cRJ : ∀ W, Below (bx2 w a b va vb).heap.size (bx2 w a b va vb) W → Calls Tryd.prog 27 #[opV a va, opV b vb] W fun r w' => ∃ s1, r = .returned (.tuple #[opV X s1, .bool B, .int .i64 e]) ∧ OwnA w' W.heap.size s1 X.A ∧ Below W.heap.size W w')
    (cN : ∀ W, Below (bx2 w a b va vb).heap.size (bx2 w a b va vb) W → Calls Tryd.prog 16 #[errOf ad e] W fun r w' => r = .returned (.int .i64 e) ∧ Below W.heap.size W w') (hla : a.A.length ≤ 1048576) (hlb : b.A.length ≤ 1048576) :
    Calls Tryd.prog 5 #[opV a va, opV b vb] w fun r w' => r = .returned (.bool true) ∧ Below w.heap.size w w' := by
  have b0 := bx2_below w a b va vb
  have X0 := bx2_0 w a b va vb
  have X1 := bx2_1 w a b va vb
  obtain ⟨pa, la, ca, rfl⟩ : ∃ p l c, va = .slice p l c := by obtain ⟨p, c, h, _⟩ := ra.row.val; exact ⟨_, _, _, h⟩
  obtain ⟨pb, lb, cb, rfl⟩ : ∃ p l c, vb = .slice p l c := by obtain ⟨p, c, h, _⟩ := rb.row.val; exact ⟨_, _, _, h⟩
  have HR : Hid (RN (bx2 w a b (.slice pa la ca) (.slice pb lb cb)) (.slice pa la ca) a.A ∧ RN (bx2 w a b (.slice pa la ca) (.slice pb lb cb)) (.slice pb lb cb) b.A) := ⟨ra, rb⟩
  have HP : Hid (PC [a, b]) := cP
  have HJ : Hid (∀ s s', JD a s b s' (bx2 w a b (.slice pa la ca) (.slice pb lb cb)) X B (errOf ad e)) := cJ
  have HRJ : Hid (∀ W, Below (bx2 w a b (.slice pa la ca) (.slice pb lb cb)).heap.size (bx2 w a b (.slice pa la ca) (.slice pb lb cb)) W → Calls Tryd.prog 27 #[opV a (.slice pa la ca), opV b (.slice pb lb cb)] W fun r w' => ∃ s1, r = .returned (.tuple #[opV X s1, .bool B, .int .i64 e]) ∧ OwnA w' W.heap.size s1 X.A ∧ Below W.heap.size W w') := cRJ
  have HN : Hid (∀ W, Below (bx2 w a b (.slice pa la ca) (.slice pb lb cb)).heap.size (bx2 w a b (.slice pa la ca) (.slice pb lb cb)) W → Calls Tryd.prog 16 #[errOf ad e] W fun r w' => r = .returned (.int .i64 e) ∧ Below W.heap.size W w') := cN
  obtain ⟨R, hR⟩ : ∃ R, decide (a = b) = R := ⟨_, rfl⟩
  have HSc : Hid (∀ W s s', RN W s a.A → RN W s' b.A → Calls Tryd.prog 28 #[opV a s, opV b s'] W fun r w' => r = .returned (.bool R) ∧ Below W.heap.size W w') := fun W s s' h h' => by
    have := sameC_any a b s s' W h.row h'.row (by omega) (by omega)
    rwa [hR] at this
  have HSr : Hid (∀ W s s', RN W s a.A → RN W s' b.A → Calls Tryd.prog 25 #[opV a s, opV b s'] W fun r w' => r = .returned (.bool R) ∧ Below W.heap.size W w') := fun W s s' h h' => by
    have := sameR_any a b s s' W h.row h'.row (by omega) (by omega)
    rwa [hR] at this
  have HSb : Hid (∀ W s s', RN W s b.A → RN W s' a.A → Calls Tryd.prog 28 #[opV b s, opV a s'] W fun r w' => r = .returned (.bool R) ∧ Below W.heap.size W w') := fun W s s' h h' => by
    have := sameC_any b a s s' W h.row h'.row (by omega) (by omega)
    rwa [show decide (b = a) = R by rw [← hR]; exact decide_eq_decide.2 ⟨Eq.symm, Eq.symm⟩] at this
  have HSa : Hid (∀ W s s', RN W s a.A → RN W s' a.A → Calls Tryd.prog 28 #[opV a s, opV a s'] W fun r w' => r = .returned (.bool true) ∧ Below W.heap.size W w') := fun W s s' h h' => by
    have := sameC_any a a s s' W h.row h'.row (by omega) (by omega)
    rwa [decide_eq_true rfl] at this
  have HSX : Hid (∀ W s s', RN W s X.A → RN W s' X.A → Calls Tryd.prog 25 #[opV X s, opV X s'] W fun r w' => r = .returned (.bool true) ∧ Below W.heap.size W w') := fun W s s' h h' => by
    have := sameR_any X X s s' W h.row h'.row (by omega) (by omega)
    rwa [decide_eq_true rfl] at this
  have HZX : Hid (∀ W s, B = false → RN W s X.A → Calls Tryd.prog 29 #[opV X s] W fun r w' => r = .returned (.bool true) ∧ Below W.heap.size W w') := fun W s hb h => by
    have := zero_any X s W h hX
    rwa [decide_eq_true (hXB hb)] at this
  have HKp : Hid (∀ W lo hi v v', SpO W lo hi v [a, b] → ReO W v' [a, b] → Calls Tryd.prog 17 #[v, v'] W fun r w' => r = .returned (.bool true) ∧ Below W.heap.size W w') := fun W lo hi v v' h h' => keptO_any v v' [a, b] lo hi W h h' (by simp) (fun e he => by simp at he; rcases he with rfl | rfl <;> omega)
  have HSp : Hid (∀ W lo hi v, SpO W lo hi v [a, b] → Calls Tryd.prog 22 #[v] W fun r w' => r = .returned (.tuple #[]) ∧ Out lo hi W w') := fun W lo hi v h => spoil_any v [a, b] lo hi W h (by simp) (fun e he => by simp at he; rcases he with rfl | rfl <;> omega)
  clear ra rb cP cJ cRJ cN hR hX hXB hla hlb
  obtain ⟨ak, at', ⟨ax, an, au⟩, ac, aA⟩ := a
  obtain ⟨bk, bt, ⟨bx, bn, bu⟩, bc, bA⟩ := b
  obtain ⟨xk, xt, ⟨xx, xn, xu⟩, xc, xA⟩ := X
  obtain ⟨W0, hW0⟩ : ∃ W0, W0 = bx2 w ⟨ak, at', (ax, an, au), ac, aA⟩ ⟨bk, bt, (bx, bn, bu), bc, bA⟩ (.slice pa la ca) (.slice pb lb cb) := ⟨_, rfl⟩
  obtain ⟨E, hE⟩ : ∃ E, errOf ad e = E := ⟨_, rfl⟩
  rw [hE] at HJ HN
  go_enter Tryd.func5, Tryd.ntmps5
  go_wp2_with fail
  rw [← hW0] at cL b0 X0 X1 HR HJ HRJ HN
  refine (hW0 ▸ cL : Calls Tryd.prog 9 #[] (bx2 w ⟨ak, at', (ax, an, au), ac, aA⟩ ⟨bk, bt, (bx, bn, bu), bc, bA⟩ (.slice pa la ca) (.slice pb lb cb)) fun e w' => e = .returned (.bool true) ∧ Below W0.heap.size W0 w').mono ?_; rintro r w1 ⟨rfl, d1⟩
  obtain ⟨p0, p1, p2, p3, p4, p5, p6⟩ := X0.below d1
  obtain ⟨q0, q1, q2, q3, q4, q5, q6⟩ := X1.below d1
  simp only at p0 p1 p2 p3 p4 p5 p6 q0 q1 q2 q3 q4 q5 q6
  have re := re_two w1 ⟨ak, at', (ax, an, au), ac, aA⟩ ⟨bk, bt, (bx, bn, bu), bc, bA⟩ (pa, la, ca) (pb, lb, cb) (HR.out.1.below d1) (HR.out.2.below d1)
  have cp := HP.out _ _ re
  have ba : ∀ o, Below w1.heap.size w1 (w1.alloc o) := fun o => (Below.refl _ _).alloc (Nat.le_refl _) o
  simp only [slV] at cp
  clear cL hW0 re
  go_wp2_with fail
  refine cp.mono ?_; rintro r w3 ⟨v5, rfl, sp, h3⟩
  have d3 := d1.trans (((ba _).trans (h3.mono (ba _).size)).mono d1.size)
  have hlo : W0.heap.size ≤ (w1.alloc (.cells #[.int .i64 ak, .string at', .int .i64 ax, .int .i64 an, .string au, .int .i64 ac, .slice pa la ca, .int .i64 bk, .string bt, .int .i64 bx, .int .i64 bn, .string bu, .int .i64 bc, .slice pb lb cb] 26)).heap.size := by have := d1.size; simp; omega
  obtain ⟨lo, hlo'⟩ : ∃ lo, (w1.alloc (.cells #[.int .i64 ak, .string at', .int .i64 ax, .int .i64 an, .string au, .int .i64 ac, .slice pa la ca, .int .i64 bk, .string bt, .int .i64 bx, .int .i64 bn, .string bu, .int .i64 bc, .slice pb lb cb] 26)).heap.size = lo := ⟨_, rfl⟩
  rw [hlo'] at sp hlo
  clear cp h3 ba hlo' d1 p0 p1 p2 p3 p4 p5 p6 q0 q1 q2 q3 q4 q5 q6
  obtain ⟨g, c5, s0, s1, rfl, hg1, hg2, hc5, om0, om1, rm0, rm1⟩ := spO_two sp
  obtain ⟨m0p, m0l, m0c⟩ := s0
  obtain ⟨m1p, m1l, m1c⟩ := s1
  have hz3 : W0.heap.size ≤ w3.heap.size := d3.size
  have HK : Mine2 W0 lo w3.heap.size (.slice (some ⟨g, 0, none⟩) 2 c5) ⟨ak, at', (ax, an, au), ac, aA⟩ ⟨bk, bt, (bx, bn, bu), bc, bA⟩ (m0p, m0l, m0c) (m1p, m1l, m1c) w3 := ⟨hz3, d3, Nat.le_refl _, sp, rm0, rm1⟩
  obtain ⟨p0, p1, p2, p3, p4, p5, p6⟩ := om0
  obtain ⟨q0, q1, q2, q3, q4, q5, q6⟩ := om1
  simp only [slV, Nat.zero_add, Nat.reduceAdd] at p0 p1 p2 p3 p4 p5 p6 q0 q1 q2 q3 q4 q5 q6
  obtain ⟨K, hK⟩ : ∃ K : World → Prop, K = Mine2 W0 lo w3.heap.size (.slice (some ⟨g, 0, none⟩) 2 c5) ⟨ak, at', (ax, an, au), ac, aA⟩ ⟨bk, bt, (bx, bn, bu), bc, bA⟩ (m0p, m0l, m0c) (m1p, m1l, m1c) := ⟨_, rfl⟩
  rw [← hK] at HK
  have Kb : ∀ W W', Below w3.heap.size W W' → K W → K W' := fun W W' hb h => by rw [hK] at h ⊢; exact h.upto hb
  have Kz : ∀ W, K W → w3.heap.size ≤ W.heap.size := fun W h => by rw [hK] at h; exact h.hz
  have Kd : ∀ W, K W → K W.drew := fun W h => Kb _ _ (Below.refl _ _).drew h
  have Ka : ∀ W o, K W → K (W.alloc o) := fun W o h => Kb _ _ ((Below.refl _ _).alloc (Kz W h) o) h
  have Kc : Hid (∀ W, K W → Below W0.heap.size W0 W ∧ RN W (.slice m0p m0l m0c) aA ∧ RN W (.slice m1p m1l m1c) bA ∧ SpO W lo w3.heap.size (.slice (some ⟨g, 0, none⟩) 2 c5) [⟨ak, at', (ax, an, au), ac, aA⟩, ⟨bk, bt, (bx, bn, bu), bc, bA⟩]) := fun W h => by rw [hK] at h; exact ⟨h.b0, h.sa.RN, h.sb.RN, h.sp⟩
  have cJ := fun W (h : K W) => HJ.out (.slice m0p m0l m0c) (.slice m1p m1l m1c) W (Kc.out W h).1 (Kc.out W h).2.1 (Kc.out W h).2.2.1
  have HU : Hid (∀ w', Below w3.heap.size w3 w' → (w'.cell? ⟨g, 0, none⟩ = some (.int .i64 ak) ∧ w'.cell? ⟨g, 1, none⟩ = some (.string at') ∧ w'.cell? ⟨g, 2, none⟩ = some (.int .i64 ax) ∧ w'.cell? ⟨g, 3, none⟩ = some (.int .i64 an) ∧ w'.cell? ⟨g, 4, none⟩ = some (.string au) ∧ w'.cell? ⟨g, 5, none⟩ = some (.int .i64 ac) ∧ w'.cell? ⟨g, 6, none⟩ = some (.slice m0p m0l m0c) ∧ w'.cell? ⟨g, 7, none⟩ = some (.int .i64 bk) ∧ w'.cell? ⟨g, 8, none⟩ = some (.string bt) ∧ w'.cell? ⟨g, 9, none⟩ = some (.int .i64 bx) ∧ w'.cell? ⟨g, 10, none⟩ = some (.int .i64 bn) ∧ w'.cell? ⟨g, 11, none⟩ = some (.string bu) ∧ w'.cell? ⟨g, 12, none⟩ = some (.int .i64 bc) ∧ w'.cell? ⟨g, 13, none⟩ = some (.slice m1p m1l m1c))) := fun w' hb => ⟨(hb.cell (lt_of_cell p0)).trans p0, (hb.cell (lt_of_cell p1)).trans p1, (hb.cell (lt_of_cell p2)).trans p2, (hb.cell (lt_of_cell p3)).trans p3, (hb.cell (lt_of_cell p4)).trans p4, (hb.cell (lt_of_cell p5)).trans p5, (hb.cell (lt_of_cell p6)).trans p6, (hb.cell (lt_of_cell q0)).trans q0, (hb.cell (lt_of_cell q1)).trans q1, (hb.cell (lt_of_cell q2)).trans q2, (hb.cell (lt_of_cell q3)).trans q3, (hb.cell (lt_of_cell q4)).trans q4, (hb.cell (lt_of_cell q5)).trans q5, (hb.cell (lt_of_cell q6)).trans q6⟩
  have Kl : Hid (∀ W, K W → Below w3.heap.size w3 W → True) := fun _ _ _ => trivial
  have BZ : BoxO (w3.alloc (.cells #[.int .i64 0, .string ⟨#[]⟩, .int .i64 0, .int .i64 0, .string ⟨#[]⟩, .int .i64 0, .slice none 0 0] 26)).drew w3.heap.size opZ nilS ∧ FrO (w3.alloc (.cells #[.int .i64 0, .string ⟨#[]⟩, .int .i64 0, .int .i64 0, .string ⟨#[]⟩, .int .i64 0, .slice none 0 0] 26)).drew w3.heap.size := ⟨(BoxO.new w3 opZ nilS).drew, (FrO.new w3 opZ nilS).drew⟩
  have b3z : Below w3.heap.size w3 (w3.alloc (.cells #[.int .i64 0, .string ⟨#[]⟩, .int .i64 0, .int .i64 0, .string ⟨#[]⟩, .int .i64 0, .slice none 0 0] 26)).drew := ((Below.refl _ _).alloc (Nat.le_refl _) _).drew
  have hsz : (w3.alloc (.cells #[.int .i64 0, .string ⟨#[]⟩, .int .i64 0, .int .i64 0, .string ⟨#[]⟩, .int .i64 0, .slice none 0 0] 26)).drew.heap.size = w3.heap.size + 1 := by simp
  clear hK sp rm0 rm1 d3 Kl
  go_upto_region 4 with fail
  go_cut [6, 7, 8] (fun x6 x7 x8 wx => ∃ B4 pX cX, x6 = .pointer (some ⟨B4, 0, none⟩) ∧ x7 = .bool B ∧ x8 = E ∧ BoxO wx B4 ⟨xk, xt, (xx, xn, xu), xc, xA⟩ (.slice pX xA.length cX) ∧ OwnA wx w3.heap.size (.slice pX xA.length cX) xA ∧ w3.heap.size ≤ B4 ∧ Below w3.heap.size w3 wx ∧ K wx)
  case first =>
    have MZ := fun o => HU.out (w3.alloc o) ((Below.refl _ _).alloc (Nat.le_refl _) o)
    have MZ2 := fun o => HU.out (w3.alloc o).drew ((Below.refl _ _).alloc (Nat.le_refl _) o).drew
    have MZ3 := HU.out w3.drew (Below.refl _ _).drew
    go_region_held3 (fun w' => (w'.cell? ⟨g, 0, none⟩ = some (.int .i64 ak) ∧ w'.cell? ⟨g, 1, none⟩ = some (.string at') ∧ w'.cell? ⟨g, 2, none⟩ = some (.int .i64 ax) ∧ w'.cell? ⟨g, 3, none⟩ = some (.int .i64 an) ∧ w'.cell? ⟨g, 4, none⟩ = some (.string au) ∧ w'.cell? ⟨g, 5, none⟩ = some (.int .i64 ac) ∧ w'.cell? ⟨g, 6, none⟩ = some (.slice m0p m0l m0c) ∧ w'.cell? ⟨g, 7, none⟩ = some (.int .i64 bk) ∧ w'.cell? ⟨g, 8, none⟩ = some (.string bt) ∧ w'.cell? ⟨g, 9, none⟩ = some (.int .i64 bx) ∧ w'.cell? ⟨g, 10, none⟩ = some (.int .i64 bn) ∧ w'.cell? ⟨g, 11, none⟩ = some (.string bu) ∧ w'.cell? ⟨g, 12, none⟩ = some (.int .i64 bc) ∧ w'.cell? ⟨g, 13, none⟩ = some (.slice m1p m1l m1c)) ∧ K w')
      (first | exact ⟨by with_reducible first | assumption | exact MA _ | exact MZ _ | exact MZ2 _ | exact MZ3 | exact MS _ _ _ _ _ _ _, by with_reducible first | assumption | exact Ka _ _ K4 | exact Kd _ HK | exact Ka _ _ HK | exact Kd _ (Ka _ _ HK) | exact KS _ _ _ _ _ _ _⟩)
      (first
        | (go_at_call 26; refine (cJ w3.drew (Kd _ HK)).mono ?_; rintro r w4 ⟨s3, rfl, o3, h4⟩; obtain ⟨pX, cX, hs⟩ := own_slice o3; obtain rfl : s3 = (.slice pX xA.length cX) := hs; have B4 : Below w3.heap.size w3 w4 := (Below.refl _ _).drew.trans h4; have mm := HU.out _ B4; have K4 := Kb _ _ (h4.mono (Nat.le_refl _)) (Kd _ HK); have MA := fun o => HU.out (w4.alloc o) (B4.alloc B4.size o); have o4 : Hid (OwnA w4 w3.heap.size (.slice pX xA.length cX) xA) := o3; clear o3)
        | (go_at_call 26; refine (cJ (w3.alloc (.cells #[.int .i64 0, .string ⟨#[]⟩, .int .i64 0, .int .i64 0, .string ⟨#[]⟩, .int .i64 0, .slice none 0 0] 26)).drew (Kd _ (Ka _ _ HK))).mono ?_; rintro r w4 ⟨s3, rfl, o3, h4⟩; obtain ⟨pX, cX, hs⟩ := own_slice o3; obtain rfl : s3 = (.slice pX xA.length cX) := hs; have B4 : Below w3.heap.size w3 w4 := b3z.trans (h4.mono b3z.size); have mm := HU.out _ B4; have K4 := Kb _ _ (h4.mono b3z.size) (Kd _ (Ka _ _ HK)); have o4 : Hid (OwnA w4 (w3.heap.size + 1) (.slice pX xA.length cX) xA) := (by rw [hsz] at o3; exact o3); have MS := fun u0 u1 u2 u3 u4 u5 u6 => HU.out _ (below_set7 B4 (Nat.le_refl _) u0 u1 u2 u3 u4 u5 u6); have KS := fun u0 u1 u2 u3 u4 u5 u6 => Kb _ _ (below_set7 (Below.refl w3.heap.size w4) (Nat.le_refl _) u0 u1 u2 u3 u4 u5 u6) K4; obtain ⟨z0', z1', z2', z3', z4', z5', z6'⟩ := BZ.1.below h4; obtain ⟨f0', f1', f2', f3', f4', f5', f6'⟩ := BZ.2.below BZ.1 h4; simp only [z0] at z0' z1' z2' z3' z4' z5' z6'; clear o3))
    · go_wp2_with fail
      go_meet
      case rel => exact ⟨w4.heap.size, pX, cX, rfl, rfl, rfl, BoxO.new w4 ⟨xk, xt, (xx, xn, xu), xc, xA⟩ _, owns_below o4.out ((Below.refl _ _).alloc (Nat.le_refl _) _), B4.size, B4.alloc B4.size _, Ka _ _ K4⟩
    · go_wp2_with fail
      go_meet
      case rel =>
        refine ⟨w3.heap.size, pX, cX, rfl, rfl, rfl, (BoxO.below BZ.1 h4).stored ⟨xk, xt, (xx, xn, xu), xc, xA⟩ _, ?_, Nat.le_refl _, below_set7 B4 (Nat.le_refl _) _ _ _ _ _ _ _, KS _ _ _ _ _ _ _⟩
        exact own_weaken (owns_same o4.out fun k hk => by
          have := (owns_block o4.out k hk).1
          exact heap_set7 _ (by omega) _ _ _ _ _ _ _) (Nat.le_succ _)
  case rest =>
    obtain ⟨B4, pX, cX, rfl, rfl, rfl, Z4, o4, hB4, b34, K4⟩ := hcut
    clear BZ b3z hsz cJ p0 p1 p2 p3 p4 p5 p6 q0 q1 q2 q3 q4 q5 q6 HK HJ
    have HO4 : Hid (OwnA wc w3.heap.size (.slice pX xA.length cX) xA) := o4
    clear o4
    obtain ⟨p0, p1, p2, p3, p4, p5, p6⟩ := X0.below (Kc.out _ K4).1
    simp only at p0 p1 p2 p3 p4 p5 p6
    obtain ⟨q0, q1, q2, q3, q4, q5, q6⟩ := X1.below (Kc.out _ K4).1
    simp only at q0 q1 q2 q3 q4 q5 q6
    have cR := HRJ.out _ (Kc.out _ K4).1
    go_wp2_with fail
    refine cR.mono ?_; rintro r w5 ⟨s5, rfl, o5, h5⟩
    obtain ⟨pY, cY, hs⟩ := own_slice o5
    obtain rfl : s5 = (.slice pY xA.length cY) := hs
    have bk5 : Below w5.heap.size w5 (w5.alloc (.cells #[.int .i64 xk, .string xt, .int .i64 xx, .int .i64 xn, .string xu, .int .i64 xc, .slice pY xA.length cY] 26)) := (Below.refl _ _).alloc (Nat.le_refl _) _
    obtain ⟨W5, hW5⟩ : ∃ W, W = w5.alloc (.cells #[.int .i64 xk, .string xt, .int .i64 xx, .int .i64 xn, .string xu, .int .i64 xc, .slice pY xA.length cY] 26) := ⟨_, rfl⟩
    obtain ⟨B5, hB5⟩ : ∃ B, B = w5.heap.size := ⟨_, rfl⟩
    have hh : Below wc.heap.size wc W5 := by rw [hW5]; exact h5.trans (bk5.mono h5.size)
    have K5 : K W5 := Kb _ _ (hh.mono (Kz _ K4)) K4
    have b35 : Below w3.heap.size w3 W5 := b34.trans (hh.mono (Kz _ K4))
    have HZ5 : Hid ((BoxO W5 B4 ⟨xk, xt, (xx, xn, xu), xc, xA⟩ (.slice pX xA.length cX) ∧ OwnA W5 w3.heap.size (.slice pX xA.length cX) xA) ∧ BoxO W5 B5 ⟨xk, xt, (xx, xn, xu), xc, xA⟩ (.slice pY xA.length cY) ∧ OwnA W5 w3.heap.size (.slice pY xA.length cY) xA) := by
      refine ⟨⟨Z4.below hh, owns_below HO4.out hh⟩, ?_, ?_⟩
      · rw [hW5, hB5]; exact BoxO.new w5 ⟨xk, xt, (xx, xn, xu), xc, xA⟩ (.slice pY xA.length cY)
      · rw [hW5]; exact own_weaken (owns_below o5 bk5) (Kz _ K4)
    have hB5' : w3.heap.size ≤ B5 := by rw [hB5]; exact Nat.le_trans (Kz _ K4) h5.size
    clear cR h5 o5 bk5 hh Z4 HO4 K4 b34 p0 p1 p2 p3 p4 p5 p6 q0 q1 q2 q3 q4 q5 q6
    go_upto_region 6 with fail
    rw [show w5.alloc (.cells #[.int .i64 xk, .string xt, .int .i64 xx, .int .i64 xn, .string xu, .int .i64 xc, .slice pY xA.length cY] 26) = W5 from hW5.symm, ← hB5]
    clear hW5 hB5
    obtain ⟨p0, p1, p2, p3, p4, p5, p6, q0, q1, q2, q3, q4, q5, q6⟩ := HU.out W5 b35
    have MZ3 := HU.out W5.drew b35.drew
    have cS := HSc.out W5.drew _ _ (Kc.out _ (Kd _ K5)).2.1 (Kc.out _ (Kd _ K5)).2.2.1
    have Kd5 := Kd _ K5
    have hzd : w3.heap.size ≤ W5.drew.heap.size := Kz _ Kd5
    go_region_held3 (fun w' => (w'.cell? ⟨g, 0, none⟩ = some (.int .i64 ak) ∧ w'.cell? ⟨g, 1, none⟩ = some (.string at') ∧ w'.cell? ⟨g, 2, none⟩ = some (.int .i64 ax) ∧ w'.cell? ⟨g, 3, none⟩ = some (.int .i64 an) ∧ w'.cell? ⟨g, 4, none⟩ = some (.string au) ∧ w'.cell? ⟨g, 5, none⟩ = some (.int .i64 ac) ∧ w'.cell? ⟨g, 6, none⟩ = some (.slice m0p m0l m0c) ∧ w'.cell? ⟨g, 7, none⟩ = some (.int .i64 bk) ∧ w'.cell? ⟨g, 8, none⟩ = some (.string bt) ∧ w'.cell? ⟨g, 9, none⟩ = some (.int .i64 bx) ∧ w'.cell? ⟨g, 10, none⟩ = some (.int .i64 bn) ∧ w'.cell? ⟨g, 11, none⟩ = some (.string bu) ∧ w'.cell? ⟨g, 12, none⟩ = some (.int .i64 bc) ∧ w'.cell? ⟨g, 13, none⟩ = some (.slice m1p m1l m1c)) ∧ K w')
      (first | exact ⟨by with_reducible first | assumption | exact MZ3 | exact mm, by with_reducible first | assumption | exact Kd5⟩)
      (first | (go_at_call 28; refine cS.mono ?_; rintro r w6 ⟨rfl, h6⟩; have K6 := Kb _ _ (h6.mono hzd) Kd5; have mm := HU.out w6 (b35.drew.trans (h6.mono hzd)); have HZ6 : Hid ((BoxO w6 B4 ⟨xk, xt, (xx, xn, xu), xc, xA⟩ (.slice pX xA.length cX) ∧ OwnA w6 w3.heap.size (.slice pX xA.length cX) xA) ∧ BoxO w6 B5 ⟨xk, xt, (xx, xn, xu), xc, xA⟩ (.slice pY xA.length cY) ∧ OwnA w6 w3.heap.size (.slice pY xA.length cY) xA) := ⟨⟨HZ5.out.1.1.drew.below h6, owns_below (owns_below HZ5.out.1.2 (Below.refl _ _).drew) h6⟩, HZ5.out.2.1.drew.below h6, owns_below (owns_below HZ5.out.2.2 (Below.refl _ _).drew) h6⟩))
    clear cS mm MZ3 h6 K5 Kd5 HZ5 p0 p1 p2 p3 p4 p5 p6 q0 q1 q2 q3 q4 q5 q6 b35
    have cn := HN.out _ (Kc.out _ K6).1
    go_wp2_with fail
    refine cn.mono ?_; rintro r w7 ⟨rfl, h7⟩
    have K7 := Kb _ _ (h7.mono (Kz _ K6)) K6
    have HZ7 : Hid ((BoxO w7 B4 ⟨xk, xt, (xx, xn, xu), xc, xA⟩ (.slice pX xA.length cX) ∧ OwnA w7 w3.heap.size (.slice pX xA.length cX) xA) ∧ BoxO w7 B5 ⟨xk, xt, (xx, xn, xu), xc, xA⟩ (.slice pY xA.length cY) ∧ OwnA w7 w3.heap.size (.slice pY xA.length cY) xA) := ⟨⟨HZ6.out.1.1.below h7, owns_below HZ6.out.1.2 h7⟩, HZ6.out.2.1.below h7, owns_below HZ6.out.2.2 h7⟩
    clear h7 K6 HZ6
    clear cn
    obtain ⟨p0, p1, p2, p3, p4, p5, p6⟩ := X0.below (Kc.out _ K7).1
    simp only at p0 p1 p2 p3 p4 p5 p6
    obtain ⟨q0, q1, q2, q3, q4, q5, q6⟩ := X1.below (Kc.out _ K7).1
    simp only at q0 q1 q2 q3 q4 q5 q6
    have cs := HSr.out _ _ _ (HR.out.1.below (Kc.out _ K7).1) (HR.out.2.below (Kc.out _ K7).1)
    go_wp2_with fail
    refine cs.mono ?_; rintro r w8 ⟨rfl, h8⟩
    have K8 := Kb _ _ (h8.mono (Kz _ K7)) K7
    have HZ8 : Hid ((BoxO w8 B4 ⟨xk, xt, (xx, xn, xu), xc, xA⟩ (.slice pX xA.length cX) ∧ OwnA w8 w3.heap.size (.slice pX xA.length cX) xA) ∧ BoxO w8 B5 ⟨xk, xt, (xx, xn, xu), xc, xA⟩ (.slice pY xA.length cY) ∧ OwnA w8 w3.heap.size (.slice pY xA.length cY) xA) := ⟨⟨HZ7.out.1.1.below h8, owns_below HZ7.out.1.2 h8⟩, HZ7.out.2.1.below h8, owns_below HZ7.out.2.2 h8⟩
    clear h8 K7 HZ7
    clear cs p0 p1 p2 p3 p4 p5 p6 q0 q1 q2 q3 q4 q5 q6
    obtain ⟨p0, p1, p2, p3, p4, p5, p6⟩ := X0.below (Kc.out _ K8).1
    simp only at p0 p1 p2 p3 p4 p5 p6
    obtain ⟨q0, q1, q2, q3, q4, q5, q6⟩ := X1.below (Kc.out _ K8).1
    simp only at q0 q1 q2 q3 q4 q5 q6
    have cs := HSb.out _ _ _ (HR.out.2.below (Kc.out _ K8).1) (HR.out.1.below (Kc.out _ K8).1)
    go_wp2_with fail
    refine cs.mono ?_; rintro r w9 ⟨rfl, h9⟩
    have K9 := Kb _ _ (h9.mono (Kz _ K8)) K8
    have HZ9 : Hid ((BoxO w9 B4 ⟨xk, xt, (xx, xn, xu), xc, xA⟩ (.slice pX xA.length cX) ∧ OwnA w9 w3.heap.size (.slice pX xA.length cX) xA) ∧ BoxO w9 B5 ⟨xk, xt, (xx, xn, xu), xc, xA⟩ (.slice pY xA.length cY) ∧ OwnA w9 w3.heap.size (.slice pY xA.length cY) xA) := ⟨⟨HZ8.out.1.1.below h9, owns_below HZ8.out.1.2 h9⟩, HZ8.out.2.1.below h9, owns_below HZ8.out.2.2 h9⟩
    clear h9 K8 HZ8
    clear cs p0 p1 p2 p3 p4 p5 p6 q0 q1 q2 q3 q4 q5 q6
    obtain ⟨p0, p1, p2, p3, p4, p5, p6⟩ := X0.below (Kc.out _ K9).1
    simp only at p0 p1 p2 p3 p4 p5 p6
    have cs := HSa.out _ _ _ (HR.out.1.below (Kc.out _ K9).1) (HR.out.1.below (Kc.out _ K9).1)
    go_wp2_with fail
    refine cs.mono ?_; rintro r w10 ⟨rfl, h10⟩
    have K10 := Kb _ _ (h10.mono (Kz _ K9)) K9
    have HZ10 : Hid ((BoxO w10 B4 ⟨xk, xt, (xx, xn, xu), xc, xA⟩ (.slice pX xA.length cX) ∧ OwnA w10 w3.heap.size (.slice pX xA.length cX) xA) ∧ BoxO w10 B5 ⟨xk, xt, (xx, xn, xu), xc, xA⟩ (.slice pY xA.length cY) ∧ OwnA w10 w3.heap.size (.slice pY xA.length cY) xA) := ⟨⟨HZ9.out.1.1.below h10, owns_below HZ9.out.1.2 h10⟩, HZ9.out.2.1.below h10, owns_below HZ9.out.2.2 h10⟩
    clear h10 K9 HZ9
    clear cs p0 p1 p2 p3 p4 p5 p6
    obtain ⟨p0, p1, p2, p3, p4, p5, p6⟩ := X0.below (Kc.out _ K10).1
    simp only at p0 p1 p2 p3 p4 p5 p6
    obtain ⟨q0, q1, q2, q3, q4, q5, q6⟩ := X1.below (Kc.out _ K10).1
    simp only at q0 q1 q2 q3 q4 q5 q6
    have re := re_two w10 ⟨ak, at', (ax, an, au), ac, aA⟩ ⟨bk, bt, (bx, bn, bu), bc, bA⟩ (pa, la, ca) (pb, lb, cb) (HR.out.1.below (Kc.out _ K10).1) (HR.out.2.below (Kc.out _ K10).1)
    have ba : Below w10.heap.size w10 (w10.alloc (.cells #[.int .i64 ak, .string at', .int .i64 ax, .int .i64 an, .string au, .int .i64 ac, .slice pa la ca, .int .i64 bk, .string bt, .int .i64 bx, .int .i64 bn, .string bu, .int .i64 bc, .slice pb lb cb] 26)) := (Below.refl _ _).alloc (Nat.le_refl _) _
    have ck := HKp.out _ lo w3.heap.size (.slice (some ⟨g, 0, none⟩) 2 c5) _ ((Kc.out _ K10).2.2.2.below ba) re
    clear re
    go_wp2_with fail
    refine ck.mono ?_; rintro r w11 ⟨rfl, h11'⟩
    have h11 := ba.trans (h11'.mono ba.size)
    have K11 := Kb _ _ (h11.mono (Kz _ K10)) K10
    have HZ11 : Hid ((BoxO w11 B4 ⟨xk, xt, (xx, xn, xu), xc, xA⟩ (.slice pX xA.length cX) ∧ OwnA w11 w3.heap.size (.slice pX xA.length cX) xA) ∧ BoxO w11 B5 ⟨xk, xt, (xx, xn, xu), xc, xA⟩ (.slice pY xA.length cY) ∧ OwnA w11 w3.heap.size (.slice pY xA.length cY) xA) := ⟨⟨HZ10.out.1.1.below h11, owns_below HZ10.out.1.2 h11⟩, HZ10.out.2.1.below h11, owns_below HZ10.out.2.2 h11⟩
    clear h11 K10 HZ10
    clear ck h11' ba p0 p1 p2 p3 p4 p5 p6 q0 q1 q2 q3 q4 q5 q6
    have cs := HSp.out _ lo w3.heap.size (.slice (some ⟨g, 0, none⟩) 2 c5) (Kc.out _ K11).2.2.2
    go_wp2_with fail
    refine cs.mono ?_; rintro r w12 ⟨rfl, u12⟩
    have b12 : Below w.heap.size w w12 := b0.trans (((Kc.out _ K11).1.trans ((u12.below (by have := Kz _ K11; omega)).mono hlo)).mono b0.size)
    have HZ12 : Hid ((BoxO w12 B4 ⟨xk, xt, (xx, xn, xu), xc, xA⟩ (.slice pX xA.length cX) ∧ RN w12 (.slice pX xA.length cX) xA) ∧ BoxO w12 B5 ⟨xk, xt, (xx, xn, xu), xc, xA⟩ (.slice pY xA.length cY) ∧ RN w12 (.slice pY xA.length cY) xA) := ⟨⟨HZ11.out.1.1.out u12 hB4, own_RN (u12.own (Nat.le_refl _) HZ11.out.1.2)⟩, HZ11.out.2.1.out u12 hB5', own_RN (u12.own (Nat.le_refl _) HZ11.out.2.2)⟩
    clear cs u12 HZ11 K11
    obtain ⟨p0, p1, p2, p3, p4, p5, p6⟩ := HZ12.out.1.1
    simp only at p0 p1 p2 p3 p4 p5 p6
    obtain ⟨q0, q1, q2, q3, q4, q5, q6⟩ := HZ12.out.2.1
    simp only at q0 q1 q2 q3 q4 q5 q6
    have cs := HSX.out _ _ _ HZ12.out.1.2 HZ12.out.2.2
    go_wp2_with fail
    refine cs.mono ?_; rintro r w13 ⟨rfl, h13⟩
    have b13 := b12.trans (h13.mono b12.size)
    have Z13 := HZ12.out.1.1.below h13
    have R13 := HZ12.out.1.2.below h13
    clear cs h13 HZ12 b12 p0 p1 p2 p3 p4 p5 p6 q0 q1 q2 q3 q4 q5 q6
    obtain ⟨p0, p1, p2, p3, p4, p5, p6⟩ := Z13
    simp only at p0 p1 p2 p3 p4 p5 p6
    cases B with
    | true =>
      go_wp2
      go_ret
      exact ⟨rfl, b13⟩
    | false =>
      have cz := HZX.out _ _ rfl R13
      go_wp2_with fail
      refine cz.mono ?_; rintro r w14 ⟨rfl, h14⟩
      go_wp2
      go_ret
      exact ⟨rfl, b13.trans (h14.mono b13.size)⟩
end Go.Proofs.YtecmdlecfddeeaaDoor

/- The errors' numbers: what vellumnum.list and vellumnum.Num answer where all nineteen sentinels lie as laid. -/
namespace Go.Proofs.YtecmdlecfddeeaaDoor
open Go Go.RowKit
set_option linter.unusedVariables false

/-- All nineteen. -/
def all19 : List Nat := List.range 19
abbrev Sent (a : Nat → Addr) (w : World) : Prop := Er all19 a w
theorem in19 {i : Nat} (h : i < 19) : i ∈ all19 := List.mem_range.2 h
def errA (a : Nat → Addr) : Array Value := #[errV a 0, errV a 1, errV a 2, errV a 3, errV a 4, errV a 5, errV a 6, errV a 7, errV a 8, errV a 9, errV a 10, errV a 11, errV a 12, errV a 13, errV a 14, errV a 15, errV a 16, errV a 17, errV a 18]

theorem wl_build (a : Nat → Addr) {ops : Array Oper} {rest : List Oper} {o : Oper} {A : Act} {w : World} {Q : Exit → Act → World → Prop} (hg : o.guard = none) (parts : Array (Nat × Operand)) (ho : o.op = .build 93 parts)
    (hp : (parts.map fun (i, x) => (i, A.eval x)) = #[(0, errV a 0), (1, errV a 1), (2, errV a 2), (3, errV a 3), (4, errV a 4), (5, errV a 5), (6, errV a 6), (7, errV a 7), (8, errV a 8), (9, errV a 9), (10, errV a 10), (11, errV a 11), (12, errV a 12), (13, errV a 13), (14, errV a 14), (15, errV a 15), (16, errV a 16), (17, errV a 17), (18, errV a 18)])
    (h : wpList Tryd.prog ops Q rest (A.put o.dst (.agg (errA a))) w) : wpList Tryd.prog ops Q (o :: rest) A w := by
  have hb : Tryd.prog.built 93 (parts.map fun (i, x) => (i, A.eval x)).toList = some (errA a) := by rw [hp]; kernel_rfl
  refine wpList_build hg 93 parts ho (by rw [hb]; rfl) ?_
  rw [hb]; exact h

theorem alloc_setRow (w : World) (old cs : Array Value) (t : TypeId) : (w.alloc (.cells old t)).setRow w.heap.size cs = w.alloc (.cells cs t) := by
  have : ((w.heap.push (.cells old t)).modify w.heap.size fun | .cells _ t f => .cells cs t f | o => o) = w.heap.push (.cells cs t) := by
    apply Array.ext
    · simp
    · intro i h1 h2
      rw [Array.getElem_modify]
      by_cases hi : w.heap.size = i
      · subst hi; simp
      · rw [if_neg hi]
        have : i < w.heap.size := by simp at h2; omega
        simp [Array.getElem_push, this]
  show { w with heap := (w.heap.push (.cells old t)).modify w.heap.size _ } = { w with heap := w.heap.push _ }
  rw [← this]; rfl

theorem wl_store (a : Nat → Addr) {ops : Array Oper} {rest : List Oper} {o : Oper} {A : Act} {w : World} {Q : Exit → Act → World → Prop} {old : Array Value} (hg : o.guard = none) (x y : Operand) (ho : o.op = .store 93 x y)
    (hx : A.eval x = .pointer (some ⟨w.heap.size, 0, none⟩)) (hy : A.eval y = .agg (errA a)) (hold : old.size = 19)
    (h : wpList Tryd.prog ops Q rest (A.put o.dst undef) (w.alloc (.cells (errA a) 93))) : wpList Tryd.prog ops Q (o :: rest) A (w.alloc (.cells old 93)) := by
  refine wpList_store_row hg 93 x y ho w.heap.size (errA a) hx hy 93 old (by show (w.heap.push _)[w.heap.size]? = _; simp) (by kernel_rfl) (by rw [hold]; rfl) (by kernel_rfl) ?_
  rw [alloc_setRow]; exact h

set_option maxHeartbeats 400000 in
set_option maxRecDepth 100000 in
theorem list_any (a : Nat → Addr) (w : World) (h : ∀ i, i < 19 → w.cell? ⟨[4, 5, 6, 7, 1, 3, 8, 9, 2, 10, 11, 0, 12, 13, 14, 15, 16, 17, 18].getD i 0, 0, none⟩ = some (errV a i)) :
    Calls Tryd.prog 43 #[] w fun e w' => e = .returned (.agg (errA a)) ∧ Below w.heap.size w w' := by
  have h0 : w.cell? ⟨4, 0, none⟩ = some (errV a 0) := h 0 (by omega)
  have h1 : w.cell? ⟨5, 0, none⟩ = some (errV a 1) := h 1 (by omega)
  have h2 : w.cell? ⟨6, 0, none⟩ = some (errV a 2) := h 2 (by omega)
  have h3 : w.cell? ⟨7, 0, none⟩ = some (errV a 3) := h 3 (by omega)
  have h4 : w.cell? ⟨1, 0, none⟩ = some (errV a 4) := h 4 (by omega)
  have h5 : w.cell? ⟨3, 0, none⟩ = some (errV a 5) := h 5 (by omega)
  have h6 : w.cell? ⟨8, 0, none⟩ = some (errV a 6) := h 6 (by omega)
  have h7 : w.cell? ⟨9, 0, none⟩ = some (errV a 7) := h 7 (by omega)
  have h8 : w.cell? ⟨2, 0, none⟩ = some (errV a 8) := h 8 (by omega)
  have h9 : w.cell? ⟨10, 0, none⟩ = some (errV a 9) := h 9 (by omega)
  have h10 : w.cell? ⟨11, 0, none⟩ = some (errV a 10) := h 10 (by omega)
  have h11 : w.cell? ⟨0, 0, none⟩ = some (errV a 11) := h 11 (by omega)
  have h12 : w.cell? ⟨12, 0, none⟩ = some (errV a 12) := h 12 (by omega)
  have h13 : w.cell? ⟨13, 0, none⟩ = some (errV a 13) := h 13 (by omega)
  have h14 : w.cell? ⟨14, 0, none⟩ = some (errV a 14) := h 14 (by omega)
  have h15 : w.cell? ⟨15, 0, none⟩ = some (errV a 15) := h 15 (by omega)
  have h16 : w.cell? ⟨16, 0, none⟩ = some (errV a 16) := h 16 (by omega)
  have h17 : w.cell? ⟨17, 0, none⟩ = some (errV a 17) := h 17 (by omega)
  have h18 : w.cell? ⟨18, 0, none⟩ = some (errV a 18) := h 18 (by omega)
  have z0 : 4 < w.heap.size := lt_of_cell h0
  have z1 : 5 < w.heap.size := lt_of_cell h1
  have z2 : 6 < w.heap.size := lt_of_cell h2
  have z3 : 7 < w.heap.size := lt_of_cell h3
  have z4 : 1 < w.heap.size := lt_of_cell h4
  have z5 : 3 < w.heap.size := lt_of_cell h5
  have z6 : 8 < w.heap.size := lt_of_cell h6
  have z7 : 9 < w.heap.size := lt_of_cell h7
  have z8 : 2 < w.heap.size := lt_of_cell h8
  have z9 : 10 < w.heap.size := lt_of_cell h9
  have z10 : 11 < w.heap.size := lt_of_cell h10
  have z11 : 0 < w.heap.size := lt_of_cell h11
  have z12 : 12 < w.heap.size := lt_of_cell h12
  have z13 : 13 < w.heap.size := lt_of_cell h13
  have z14 : 14 < w.heap.size := lt_of_cell h14
  have z15 : 15 < w.heap.size := lt_of_cell h15
  have z16 : 16 < w.heap.size := lt_of_cell h16
  have z17 : 17 < w.heap.size := lt_of_cell h17
  have z18 : 18 < w.heap.size := lt_of_cell h18
  clear h
  go_enter Tryd.func43, Tryd.ntmps43
  go_wp2_with (first | (refine wl_build a rfl _ rfl (by kernel_rfl) ?_) | (refine wl_store a rfl _ _ rfl (by kernel_rfl) (by kernel_rfl) (by kernel_rfl) ?_))
  have hl := run_loadVar_new (P := Tryd.prog) w 93 (errA a) 19 32 Tryd.underlying93 (by kernel_rfl)
  refine bodyPost_ret (v := .agg (errA a)) ?_ rfl ⟨rfl, (Below.refl _ _).alloc (Nat.le_refl _) _⟩
  simp only [results, Tryd.results43]
  simp [asAddr, Act.put, hl]

theorem errA_get (a : Nat → Addr) (k : Nat) (hk : k < 19) : (errA a)[k]? = some (errV a k) := by
  have e : errA a = ((List.range 19).map (errV a)).toArray := rfl
  rw [e]
  simp [hk]

theorem index_arr {A : Array Value} {k : Nat} {v : Value} (hk : k < 19) (hA : A[k]? = some v) (w : World) : (Instr.index 93 (.agg A) (.int .i64 k)).run Tryd.prog w = .ok v w := by
  obtain ⟨i, hi, hs⟩ := Option.map_eq_some_iff.1 (show (Tryd.prog.info? 32).map (·.size) = some 1 by kernel_rfl)
  have hk2 : (0 : Int) ≤ k ∧ (k : Int) < 19 := by omega
  simp [Instr.index, run_underlying Tryd.underlying93, asIntOf, hk2, sizeOf, typeInfo, hi, hs, part, hA]
  omega

theorem num_nil (w : World) : Calls Tryd.prog 16 #[.nilIface] w fun e w' => e = .returned (.int .i64 0) ∧ w' = w := by
  go_enter Tryd.func16, Tryd.ntmps16
  go_wp2
  go_ret
  exact ⟨rfl, rfl⟩

set_option maxHeartbeats 400000 in
theorem num_err {a : Nat → Addr} {w : World} (h : Sent a w) (n : Nat) (hn : n < 19) :
    Calls Tryd.prog 16 #[errV a n] w fun e w' => e = .returned (.int .i64 (n + 1)) ∧ Below w.heap.size w w' := by
  have hcell : ∀ i, i < 19 → w.cell? ⟨[4, 5, 6, 7, 1, 3, 8, 9, 2, 10, 11, 0, 12, 13, 14, 15, 16, 17, 18].getD i 0, 0, none⟩ = some (errV a i) := fun i hi => h.cell i (in19 hi)
  have hnil := eql_nil a n
  have hsame := eql_same a n
  obtain ⟨A, hA⟩ : ∃ A, A = errA a := ⟨_, rfl⟩
  have hAs : A.size = 19 := by rw [hA]; rfl
  have hAg : ∀ k, k < 19 → A[k]? = some (errV a k) := by rw [hA]; exact errA_get a
  go_enter Tryd.func16, Tryd.ntmps16
  go_wp2_with (go_at_call 43; refine (list_any a _ hcell).mono ?_; rintro e w1 ⟨rfl, hb⟩; have h1 := h.below hb; clear hcell h hnil; rw [← hA]; clear hA)
  go_loop [8] (fun i => ∃ k : Nat, k ≤ n ∧ i = .int .i64 k) (fun i => 19 - (intOf i).toNat)
  case atStart => exact ⟨0, Nat.zero_le _, rfl⟩
  case round =>
    obtain ⟨k, hk, rfl⟩ := hrel
    have hAk := hAg k (by omega)
    have hk9 : (k : Int) < 19 := by omega
    have hix := index_arr (A := A) (by omega : k < 19) hAk
    clear hAg hAk
    by_cases hlt : k < n
    · have he := eql_other h1 n k (in19 hn) (in19 (by omega)) (by omega)
      clear h1 hsame
      go_wp2
      go_round
      case rel => exact ⟨k + 1, by omega, by go_num⟩
      case measure => simp [intOf]; omega
    · obtain rfl : k = n := by omega
      clear h1
      go_wp2
      go_ret
      exact ⟨rfl, hb⟩

theorem num_of {a : Nat → Addr} {w : World} (h : Sent a w) (e : Nat) (he : e ≤ 19) :
    Calls Tryd.prog 16 #[errOf a e] w fun r w' => r = .returned (.int .i64 e) ∧ Below w.heap.size w w' := by
  cases e with
  | zero => exact (num_nil w).mono fun r w' ⟨h1, h2⟩ => ⟨h1, by rw [h2]; exact Below.refl _ _⟩
  | succ n => rw [errOf_succ]; exact num_err h n (by omega)
end Go.Proofs.YtecmdlecfddeeaaDoor

/- Of all operations vellumlaw04.ContentJoins answers true. -/
namespace Go.Proofs.YtecmdlecfddeeaaDoor
open Go Go.RowKit Go.Lib
set_option linter.unusedVariables false

theorem joins_any4 {I : List Nat} {ad : Nat → Addr} (a b : Op5) (va vb : Value) (w : World) (hI : ∀ i ∈ IC, i ∈ I) (hS : Std I ad w) (hN : Sent ad w) (ra : RN w va a.A) (rb : RN w vb b.A) (fa : Fit a) (fb : Fit b) :
    Calls Tryd.prog 5 #[opV a va, opV b vb] w fun r w' => r = .returned (.bool true) ∧ Below w.heap.size w w' := by
  have b0 := bx2_below w a b va vb
  have S0 := hS.below b0
  have N0 := hN.below b0
  refine joins_1 (ad := ad) a b va vb w (jR a b) (jB a b) (joinE a b) (lives_any4 _ hI S0) (ra.below b0) (rb.below b0) (fun W v h => copy_any v [a, b] W h (by simp) (fun e he => by simp at he; rcases he with rfl | rfl; exact fa.n; exact fb.n)) (fun s s' W hW h h' => ?_) ?_ (fun hB => ?_) (fun W hW => ?_) (fun W hW => ?_) fa.n fb.n
  · exact join_any a b s s' W hI (S0.below hW) h h' fa fb
  · unfold jR
    split
    · have := fa.n
      show a.A.length ≤ _
      omega
    · show ([] : List A2).length ≤ _
      simp
  · unfold jR
    rw [hB]
    rfl
  · exact refJoin_any a b va vb W (S0.below hW) ((ra.below b0).below hW) ((rb.below b0).below hW) fa fb
  · exact num_of (N0.below hW) _ (joinE_le a b)
end Go.Proofs.YtecmdlecfddeeaaDoor
