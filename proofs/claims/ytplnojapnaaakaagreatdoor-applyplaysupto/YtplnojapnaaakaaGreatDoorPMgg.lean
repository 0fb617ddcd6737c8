/- apply.push: one step put down. measure: gathered: pieces of deltas put into one. One list behind another, in canonical form, by units: sums, brackets, what a cut takes. measure: count: how many cells a delta keeps, makes and takes away; Base, Result, Inserted, Deleted, Document. measure: Base, Result, Inserted, Deleted, Document, Concat, Shift. apply: which pairs are refused; Fits. A document and a delta that applies to it, step by step. Stage 10, purely: cells behind a delta with the places that they had; which of them stay, and where they stand then. A document and a delta that applies to it, step by step: how far both are, and which cells stay. Loops over a function (Wl's law), twice anew: the assignment may lay blocks of its own and the body is told that its loop's record lies there; and the same within a round of another such loop. Loops over a function that writes cells of its own, whose blocks the caller is told of: they lie from the call's first block on and below a mark. What Steps' function hands over, the blocks of its two Walkers told. A Builder that is written while another function's cells turn beside it. apply.Apply. -/
import Derived.Test.YtplnojapnaaakaaGreatDoorPMge
import Derived.Test.YtplnojapnaaakaaGreatDoorPMgc
import Derived.Test.YtplnojapnaaakaaGreatDoorPMgf
import Derived.Test.YtplnojapnaaakaaGreatDoorPMgd
import Derived.Test.YtplnojapnaaakaaGreatDoorPMgb
import Derived.Stop.RegionWithIn
import Derived.Lib.AppendZerosOnto
import Derived.Lib.SliceRun
import Derived.Laws.AppendOwnNone

/- apply.push: one step put down. -/
namespace Go.Proofs.YtplnojapnaaakaaGreatDoor
open Go Go.RowKit Go.Lib
set_option linter.unusedVariables false
theorem asDel_1 (v : Value) (w : World) : (Instr.typeAssert (.iface 183 v) 56 97 true).run Tryz.prog w = .ok (.tuple #[.agg #[.int .i64 0], .bool false]) w := by kernel_rfl
theorem asDel_2 (v : Value) (w : World) : (Instr.typeAssert (.iface 187 v) 56 97 true).run Tryz.prog w = .ok (.tuple #[.agg #[.int .i64 0], .bool false]) w := by kernel_rfl
theorem asDel_3 (v : Value) (w : World) : (Instr.typeAssert (.iface 151 v) 56 97 true).run Tryz.prog w = .ok (.tuple #[.agg #[.int .i64 0], .bool false]) w := by kernel_rfl
theorem asDel_4 (n : Int) (w : World) : (Instr.typeAssert (.iface 97 (.agg #[.int .i64 n])) 56 97 true).run Tryz.prog w = .ok (.tuple #[.agg #[.int .i64 n], .bool true]) w := by kernel_rfl
theorem asRet_1 (v : Value) (w : World) : (Instr.typeAssert (.iface 183 v) 56 151 true).run Tryz.prog w = .ok (.tuple #[.agg #[.slice none 0 0, .int .i64 0], .bool false]) w := by kernel_rfl
theorem asRet_2 (v : Value) (w : World) : (Instr.typeAssert (.iface 187 v) 56 151 true).run Tryz.prog w = .ok (.tuple #[.agg #[.slice none 0 0, .int .i64 0], .bool false]) w := by kernel_rfl
theorem asRet_3 (s : Value) (n : Int) (w : World) : (Instr.typeAssert (.iface 151 (.agg #[s, .int .i64 n])) 56 151 true).run Tryz.prog w = .ok (.tuple #[.agg #[s, .int .i64 n], .bool true]) w := by kernel_rfl
theorem FitA.small {o : Op5} (h : FitA o) : Small o.A := fun q hq => by have := h.A q hq; unfold big; omega
/-- No piece put down: a deletion. -/
theorem push10_del (gv x : Value) (n : Int) (w : World) : Calls Tryz.prog 79 #[gv, x, .iface 97 (.agg #[.int .i64 n])] w fun r w' => r = .returned .nilIface ∧ Below w.heap.size w w' := by
  have h1 := fun W => asDel_4 n W
  have b1 := (Below.refl w.heap.size w).alloc (Nat.le_refl _) (.cells #[.int .i64 n] 97)
  go_enter Tryz.func79, Tryz.ntmps79
  go_wp2
  go_ret
  exact ⟨rfl, b1⟩
set_option maxHeartbeats 4000000 in
set_option maxRecDepth 100000 in
/-- An insert put down. -/
theorem push10_ins {I : List Nat} {a : Nat → Addr} {B g : Nat} {D : Nat → Prop} {E : List Op5} (o : Op5) (s x : Value) (w : World) (hI : ∀ i ∈ IxO, i ∈ I) (hS : Std I a w) (hR : RN w s o.A) (hg : opE o = 0) (hk : o.k = 1 ∨ o.k = 2) (hF : Fit o) (h : Gath w B D g E) (hE : OkE (E ++ [o])) (hD : ∀ k, D k → k < w.heap.size) :
    Calls Tryz.prog 79 #[.pointer (some ⟨g, 0, none⟩), x, pieceQ o s] w fun r w' => r = .returned .nilIface ∧ Gath w' B D g (E ++ [o]) ∧ FrB B D w w' := by
  have hBw : B ≤ w.heap.size := by have := BldE.lo h; omega
  have cP : Hid (∀ W v', Below w.heap.size w W → OwnA W w.heap.size v' o.A → Calls Tryz.prog 29 #[.pointer (some ⟨g, 0, none⟩), opV o v'] W fun r w' => r = .returned .nilIface ∧ Gath w' B D g (E ++ [o]) ∧ FrB B D w w') := fun W v' hW hv => by
    obtain ⟨p, c, rfl, _⟩ := own_rowA hv
    exact (pushB_ok o p _ c W hI (hS.below hW) (own_RN hv) hF (BldE.below h hW) hE (fun k hk => Nat.lt_of_lt_of_le (hD k hk) hW.size)).mono (by
      rintro r w' ⟨h1, h2, h3⟩
      exact ⟨h1, h2, (FrB.of_below hW hBw).trans h3⟩)
  have HR : Hid (RN w s o.A ∧ opE o = 0 ∧ o.A.length ≤ 2097152) := ⟨hR, hg, by have := hF.n; omega⟩
  obtain ⟨pv, hpv⟩ : ∃ pv, pieceQ o s = pv := ⟨_, rfl⟩
  have hf : ∃ t v, pv = .iface t v ∧ (∀ W, (Instr.typeAssert (.iface t v) 56 97 true).run Tryz.prog W = .ok (.tuple #[.agg #[.int .i64 0], .bool false]) W) ∧ ∀ W, (Instr.typeAssert (.iface t v) 56 151 true).run Tryz.prog W = .ok (.tuple #[.agg #[.slice none 0 0, .int .i64 0], .bool false]) W := by
    rcases hk with hk | hk
    · rw [← hpv, pieceQ_1 hk]; exact ⟨_, _, rfl, fun W => asDel_1 _ W, fun W => asRet_1 _ W⟩
    · rw [← hpv, pieceQ_2 hk]; exact ⟨_, _, rfl, fun W => asDel_2 _ W, fun W => asRet_2 _ W⟩
  obtain ⟨t, v, rfl, a1, a2⟩ := hf
  rw [hpv]
  have HP : Hid (Value.iface t v = pieceQ o s) := hpv.symm
  obtain ⟨F, hFF⟩ : ∃ F, E ++ [o] = F := ⟨_, rfl⟩
  rw [hFF] at cP ⊢
  clear hS hI hR hg hF h hE hD hBw hpv hFF hk
  go_enter Tryz.func79, Tryz.ntmps79
  go_wp2_with (refine wpList_opP rfl (.tmp 39) rfl o s HP.out HR.out.2.1 HR.out.1 HR.out.2.2 ?_; intro v' w' ow bw; have c3 := cP.out _ _ bw ow; clear ow bw cP)
  refine c3.mono ?_; rintro r w1 ⟨rfl, h1, h2⟩
  have H1 : Hid (Gath w1 B D g F ∧ FrB B D w w1) := ⟨h1, h2⟩
  clear c3 h1 h2
  go_wp2
  go_ret
  exact ⟨rfl, H1.out⟩
set_option maxHeartbeats 4000000 in
set_option maxRecDepth 100000 in
/-- An insert that stays, its set patched. -/
theorem push10_ret {I : List Nat} {a : Nat → Addr} {B g : Nat} {D : Nat → Prop} {E : List Op5} (o : Op5) (A : List A2) (n : Int) (s sv : Value) (w : World) (hI : ∀ i ∈ IxO, i ∈ I) (hS : Std I a w) (hR : RN w s o.A) (hg : opE o = 0) (hk : o.k = 1 ∨ o.k = 2) (hF : Fit o) (hA : RN w sv A) (hgA : listE true none A = 0) (sA : Small A) (hl : o.A.length + A.length ≤ 1048576) (h : Gath w B D g E) (hE : OkE (E ++ [patO o A])) (hD : ∀ k, D k → k < w.heap.size) :
    Calls Tryz.prog 79 #[.pointer (some ⟨g, 0, none⟩), pieceQ o s, .iface 151 (.agg #[sv, .int .i64 n])] w fun r w' => r = .returned .nilIface ∧ Gath w' B D g (E ++ [patO o A]) ∧ FrB B D w w' := by
  have hBw : B ≤ w.heap.size := by have := BldE.lo h; omega
  have hset : listE false none o.A = 0 := by
    rcases op_good hg with ⟨i, _⟩ | ⟨_, _, i⟩ | ⟨_, _, i⟩
    · exact i.set
    · omega
    · omega
  have hFp : Fit (patO o A) := (hE.fit _ (List.mem_append_right _ (List.mem_singleton.2 rfl))).fit hF.t
  have cP : Hid (∀ W v', Below w.heap.size w W → OwnA W w.heap.size v' (patO o A).A → Calls Tryz.prog 29 #[.pointer (some ⟨g, 0, none⟩), opV (patO o A) v'] W fun r w' => r = .returned .nilIface ∧ Gath w' B D g (E ++ [patO o A]) ∧ FrB B D w w') := fun W v' hW hv => by
    obtain ⟨p, c, rfl, _⟩ := own_rowA hv
    exact (pushB_ok (patO o A) p _ c W hI (hS.below hW) (own_RN hv) hFp (BldE.below h hW) hE (fun k hk => Nat.lt_of_lt_of_le (hD k hk) hW.size)).mono (by
      rintro r w' ⟨h1, h2, h3⟩
      exact ⟨h1, h2, (FrB.of_below hW hBw).trans h3⟩)
  have cA : Hid (∀ W v', Below w.heap.size w W → RowA W v' o.A → Calls Tryz.prog 112 #[v', sv] W fun r w' => ∃ v', r = .returned (.tuple #[v', .nilIface]) ∧ OwnA w' W.heap.size v' (jn (chC false) o.A A) ∧ Below W.heap.size W w') := fun W v' hW hv =>
    appl_ok v' sv o.A A W (fun i hi => hI i ((by decide : ∀ i ∈ IX, i ∈ IxO) i hi)) (hS.below hW) hv (hA.row.below hW) hF.small sA hl (both_zero hset hgA)
  have HR : Hid (RN w s o.A ∧ opE o = 0 ∧ o.A.length ≤ 2097152) := ⟨hR, hg, by have := hF.n; omega⟩
  obtain ⟨pv, hpv⟩ : ∃ pv, pieceQ o s = pv := ⟨_, rfl⟩
  have hf : ∃ t v, pv = .iface t v := by
    rcases hk with hk | hk
    · rw [← hpv, pieceQ_1 hk]; exact ⟨_, _, rfl⟩
    · rw [← hpv, pieceQ_2 hk]; exact ⟨_, _, rfl⟩
  obtain ⟨t, v, rfl⟩ := hf
  rw [hpv]
  have HP : Hid (Value.iface t v = pieceQ o s) := hpv.symm
  obtain ⟨F, hFF⟩ : ∃ F, E ++ [patO o A] = F := ⟨_, rfl⟩
  rw [hFF] at cP ⊢
  obtain ⟨ps, cs, rfl, _⟩ := hA.row.val
  obtain ⟨ls, hls⟩ : ∃ ls, A.length = ls := ⟨_, rfl⟩
  rw [hls] at cA ⊢
  have a1 := fun W => asDel_3 (.agg #[.slice ps ls cs, .int .i64 n]) W
  have a2 := fun W => asRet_3 (.slice ps ls cs) n W
  have b1 := (Below.refl w.heap.size w).alloc (Nat.le_refl _) (.cells #[.slice ps ls cs, .int .i64 n] 151)
  have HB : Hid (Below w.heap.size w (w.alloc (.cells #[.slice ps ls cs, .int .i64 n] 151))) := b1
  obtain ⟨la, hla⟩ : ∃ la, o.A.length = la := ⟨_, rfl⟩
  have HLA : Hid (o.A.length = la) := hla
  clear hS hI hR hg hF h hE hD hBw hpv hFF hk hA hgA sA hl hset hFp hls b1 hla
  go_enter Tryz.func79, Tryz.ntmps79
  go_wp2_with (refine wpList_opP rfl (.tmp 19) rfl o s HP.out HR.out.2.1 (HR.out.1.below HB.out) HR.out.2.2 ?_; intro v' w1 ow bw; obtain ⟨p1, c1, rfl⟩ : ∃ p c, v' = .slice p la c := (by obtain ⟨p, c, e, _⟩ := own_rowA ow; rw [HLA.out] at e; exact ⟨p, c, e⟩); have HO1 : Hid (OwnA w1 w.heap.size (.slice p1 la c1) o.A ∧ Below w.heap.size w w1 ∧ w1.heap[w.heap.size]? = some (.cells #[.slice ps ls cs, .int .i64 n] 151 (0, 0))) := ⟨own_weaken ow HB.out.size, HB.out.trans (bw.mono HB.out.size), heap_below bw (heap_alloc_new w _)⟩; have g8 : w1.cell? ⟨w.heap.size, 0, none⟩ = some (.slice ps ls cs) := (by rw [cell_of_heap HO1.out.2.2]; rfl); have hlt8 : w.heap.size < w1.heap.size := (Array.getElem?_eq_some_iff.1 HO1.out.2.2).1; clear ow bw)
  have bX : Below w1.heap.size w1 (w1.alloc (.cells (opC o (.slice p1 la c1)) 33)) := (Below.refl _ _).alloc (Nat.le_refl _) _
  have hX := heap_alloc_new w1 (.cells (opC o (.slice p1 la c1)) 33)
  obtain ⟨w2, hw2⟩ : ∃ W, w1.alloc (.cells (opC o (.slice p1 la c1)) 33) = W := ⟨_, rfl⟩
  rw [hw2] at bX hX
  have c2 := cA.out w2 (.slice p1 la c1) (HO1.out.2.1.trans (bX.mono HO1.out.2.1.size)) (RowA.below (own_rowA HO1.out.1) bX)
  simp only [opC] at hw2
  rw [hw2]
  have H2 : Hid (Below w.heap.size w w2 ∧ w2.heap[w1.heap.size]? = some (.cells (opC o (.slice p1 la c1)) 33 (0, 0))) := ⟨HO1.out.2.1.trans (bX.mono HO1.out.2.1.size), hX⟩
  clear hw2 bX hX g8 hlt8 cA
  refine c2.mono ?_; rintro r w3 ⟨v3, rfl, o3, b3⟩
  have hX3 := heap_below b3 H2.out.2
  have B3 := H2.out.1.trans (b3.mono H2.out.1.size)
  obtain ⟨k0, k1, k2, k3, k4, k5, k6⟩ : w3.cell? ⟨w1.heap.size, 0, none⟩ = some (.int .i64 o.k) ∧ w3.cell? ⟨w1.heap.size, 1, none⟩ = some (.string o.t) ∧ w3.cell? ⟨w1.heap.size, 2, none⟩ = some (.int .i64 o.v.1) ∧ w3.cell? ⟨w1.heap.size, 3, none⟩ = some (.int .i64 o.v.2.1) ∧ w3.cell? ⟨w1.heap.size, 4, none⟩ = some (.string o.v.2.2) ∧ w3.cell? ⟨w1.heap.size, 5, none⟩ = some (.int .i64 o.c) ∧ w3.cell? ⟨w1.heap.size, 6, none⟩ = some (.slice p1 la c1) := by
    refine ⟨?_, ?_, ?_, ?_, ?_, ?_, ?_⟩ <;> (rw [cell_of_heap hX3]; rfl)
  have f6 := frozen_of_heap hX3 6
  have own4 : OwnA (w3.setCell ⟨w1.heap.size, 6, none⟩ v3) w.heap.size v3 (patO o A).A := owns_same (own_weaken o3 H2.out.1.size) fun j hj => Below.heap_setCell _ _ _ _ fun e => by
    obtain ⟨_, cur, hc⟩ := owns_block o3 j hj
    rw [show j = w1.heap.size from e, hX3] at hc
    cases hc
  have c4 := cP.out _ v3 (B3.setCell (p := ⟨w1.heap.size, 6, none⟩) (by have := HO1.out.2.1.size; exact this) v3) own4
  obtain ⟨p3, l3, c3, rfl⟩ : ∃ p l c, v3 = .slice p l c := by obtain ⟨p, c, e, _⟩ := own_rowA o3; exact ⟨p, _, c, e⟩
  simp only [patO, opV] at c4
  clear c2 o3 b3 hX3 B3 own4 HO1 H2 cP
  go_wp2_with fail
  refine c4.mono ?_; rintro r w5 ⟨rfl, h1, h2⟩
  have H5 : Hid (Gath w5 B D g F ∧ FrB B D w w5) := ⟨h1, h2⟩
  clear c4 h1 h2
  go_wp2
  go_ret
  exact ⟨rfl, H5.out⟩
/-- What a step of a document and a delta may be. -/
def Doc10 (x y : Option Op5) : Prop := (x = none ∧ ∃ q, y = some q ∧ (q.k = 1 ∨ q.k = 2)) ∨ ∃ p q, x = some p ∧ y = some q ∧ (p.k = 1 ∨ p.k = 2) ∧ (q.k = 3 ∨ q.k = 4)
/-- apply.push: a step's pieces put down. -/
theorem push10_any {I : List Nat} {a : Nat → Addr} {B B0 g K : Nat} {D : Nat → Prop} {E : List Op5} (x y : Option Op5) (p q : Value) (w : World) (hI : ∀ i ∈ IxO, i ∈ I) (hS : Std I a w) (hx : PcV w B0 p x) (hy : PcV w B0 q y) (hd : Doc10 x y) (gx : ∀ o, x = some o → opE o = 0 ∧ FitA o ∧ o.A.length ≤ K) (gy : ∀ o, y = some o → opE o = 0 ∧ FitA o ∧ o.A.length ≤ K) (hK : K + K ≤ 1048576) (h : Gath w B D g E) (hE : OkE (E ++ gotO (x, y))) (hD : ∀ k, D k → k < w.heap.size) :
    Calls Tryz.prog 79 #[.pointer (some ⟨g, 0, none⟩), p, q] w fun r w' => r = .returned .nilIface ∧ Gath w' B D g (E ++ gotO (x, y)) ∧ FrB B D w w' := by
  rcases hd with ⟨rfl, o, rfl, hk⟩ | ⟨o, e, rfl, rfl, hk, hk2⟩
  · obtain ⟨s, rfl, hs⟩ := hy
    obtain ⟨g1, g2, _⟩ := gy o rfl
    exact push10_ins o s p w hI hS (own_RN hs) g1 hk (g2.fit (Nat.le_trans (txtS_mem (List.mem_append_right _ (List.mem_singleton.2 rfl))) hE.txt)) h hE hD
  · obtain ⟨s, rfl, hs⟩ := hx
    obtain ⟨s', rfl, hs'⟩ := hy
    obtain ⟨g1, g2, g4⟩ := gx o rfl
    obtain ⟨e1, e2, e4⟩ := gy e rfl
    rcases hk2 with k | k
    · have hb : gotO (some o, some e) = [patO o e.A] := by
        show bothO o e = _
        unfold bothO
        rw [if_neg (by omega), if_neg (by omega)]
      rw [hb] at hE ⊢
      rw [pieceQ_3 k]
      have hl : listE true none e.A = 0 := by
        rcases op_good e1 with ⟨_, i⟩ | ⟨_, i, _⟩ | ⟨_, _, i⟩
        · omega
        · exact i
        · omega
      exact push10_ret o e.A e.c s s' w hI hS (own_RN hs) g1 hk (g2.fit (Nat.le_trans (txtS_mem (o := patO o e.A) (List.mem_append_right _ (List.mem_singleton.2 rfl))) hE.txt)) (own_RN hs') hl e2.small (by omega) h hE hD
    · have hb : gotO (some o, some e) = [] := by
        show bothO o e = _
        unfold bothO
        rw [if_pos k, if_neg (by omega)]
      rw [hb, List.append_nil] at hE ⊢
      rw [pieceQ_4 k]
      refine (push10_del _ _ e.c w).mono fun r w' hh => ⟨hh.1, BldE.below h hh.2, FrB.of_below hh.2 (by have := BldE.lo h; omega)⟩
end Go.Proofs.YtplnojapnaaakaaGreatDoor

/- measure: gathered: pieces of deltas put into one. -/
namespace Go.Proofs.YtplnojapnaaakaaGreatDoor
open Go Go.RowKit Go.Lib
set_option linter.unusedVariables false
/-- Do the lengths of all together keep the bound? -/
def Fits8 (E : List Op5) : Prop := sumB E ≤ 1099511627776 ∧ sumR E ≤ 1099511627776
end Go.Proofs.YtplnojapnaaakaaGreatDoor

/- One list behind another, in canonical form, by units: sums, brackets, what a cut takes. -/
namespace Go.Proofs.YtplnojapnaaakaaGreatDoor
open Go Go.RowKit Go.Lib
set_option linter.unusedVariables false
def insO8 (o : Op5) : Int := if o.k = 1 ∨ o.k = 2 then len5 o else 0
def dlO8 (o : Op5) : Int := if o.k = 4 then len5 o else 0
def kpO8 (o : Op5) : Int := if o.k = 3 then len5 o else 0
def sumI8 (E : List Op5) : Int := (E.map insO8).sum
def sumD8 (E : List Op5) : Int := (E.map dlO8).sum
def sumK8 (E : List Op5) : Int := (E.map kpO8).sum
theorem three_sums {o : Op5} (h : Wel o) : baseO o = kpO8 o + dlO8 o ∧ resO o = kpO8 o + insO8 o ∧ 0 ≤ kpO8 o ∧ 0 ≤ dlO8 o ∧ 0 ≤ insO8 o := by
  have h1 := base_nn h
  have h2 := res_nn h
  have hl := len5_units h
  unfold baseO resO kpO8 dlO8 insO8 at *
  rcases h.kinds with hk | hk | hk | hk
  · simp only [hk] at *; simp at *; omega
  · simp only [hk] at *; simp at *; omega
  · simp only [hk] at *; simp at *; omega
  · simp only [hk] at *; simp at *; omega
theorem sums_three : ∀ {E : List Op5}, (∀ o ∈ E, Wel o) → sumB E = sumK8 E + sumD8 E ∧ sumR E = sumK8 E + sumI8 E ∧ 0 ≤ sumK8 E ∧ 0 ≤ sumD8 E ∧ 0 ≤ sumI8 E
  | [], _ => by decide
  | o :: r, h => by
    have ih := sums_three fun x hx => h x (List.mem_cons_of_mem _ hx)
    have h1 := three_sums (h o (List.mem_cons_self ..))
    have e : sumB (o :: r) = baseO o + sumB r ∧ sumR (o :: r) = resO o + sumR r ∧ sumK8 (o :: r) = kpO8 o + sumK8 r ∧ sumD8 (o :: r) = dlO8 o + sumD8 r ∧ sumI8 (o :: r) = insO8 o + sumI8 r := ⟨rfl, rfl, rfl, rfl, rfl⟩
    omega
end Go.Proofs.YtplnojapnaaakaaGreatDoor

/- measure: count: how many cells a delta keeps, makes and takes away; Base, Result, Inserted, Deleted, Document. -/
namespace Go.Proofs.YtplnojapnaaakaaGreatDoor
open Go Go.RowKit Go.Lib Go.Shelf
set_option linter.unusedVariables false
attribute [local go_sem] Oper.semAt_some
abbrev cnt8 (k i d : Int) : Array Value := #[.int .i64 k, .int .i64 i, .int .i64 d]
theorem tr_below8 {T : TypeId → Prop} {n B : Nat} {w A A' : World} (h : Below n w A) (hn : n ≤ w.heap.size) (hB : n ≤ B) (k : Tr7 T B A A') : Below n w A' :=
  ⟨k.os.trans h.os, k.tape.trans h.tape, k.output.trans h.output, Nat.le_trans h.size k.size, fun j hj => by
    have hl : j < A.heap.size := by have := h.size; omega
    rw [k.kept j A.heap[j] (Array.getElem?_eq_getElem hl) (.inl (by omega)), ← h.block j hj, Array.getElem?_eq_getElem hl]⟩
theorem count_leave (n0 W : World) (D r : Nat) (tmps : Array Value) (k i d : Int) (hp : tmps[2]? = some (.pointer (some ⟨r, 0, none⟩))) (hr : W.heap[r]? = some (.cells (cnt8 k i d) 196 (0, 0)))
    (hK : W.heap[D]? = some (.deferred (some []))) (h1 : n0.heap.size ≤ D) (hb : Below n0.heap.size n0 W) :
    bodyPostM Fence.wide 5 Tryz.prog Tryz.f133 (fun e w' => e = .returned (.agg (cnt8 k i d)) ∧ Below n0.heap.size n0 w') Exit.ret
      { tmps := tmps, defers := [{ target := .collected D, args := #[] }] } W := by
  have hne : r ≠ D := fun e => by subst e; rw [hr] at hK; cases hK
  have hr' : (W.putObj D (.deferred none)).heap[r]? = some (.cells (cnt8 k i d) 196 (0, 0)) := (World.putObj_heap_other hne).trans hr
  have c0 : (W.putObj D (.deferred none)).cell? ⟨r, 0, none⟩ = some (.int .i64 k) := by rw [cell_of_heap hr']; rfl
  have c1 : (W.putObj D (.deferred none)).cell? ⟨r, 1, none⟩ = some (.int .i64 i) := by rw [cell_of_heap hr']; rfl
  have c2 : (W.putObj D (.deferred none)).cell? ⟨r, 2, none⟩ = some (.int .i64 d) := by rw [cell_of_heap hr']; rfl
  refine ⟨by simp, .inl ⟨_, _, rfl, run_takeDeferred hK, ?_⟩⟩
  refine ⟨.agg (cnt8 k i d), ?_, rfl, ?_⟩
  · simp [results, Tryz.results133, go_sem, hp, c0, c1, c2]
  · exact hb.trans (belowK_b (w := n0) (Nat.le_refl _) _ D _ _ h1 hK rfl rfl)
theorem KZ.set8 {pre : List PZ} {x : PZ} {W W' : World} {N j : Nat} {v : Array Value} (b : Below W.heap.size W W') (h : W.heap[N]? = some (.cells v 196 (0, 0))) (u : Value) : KZ pre x W (W'.setCell ⟨N, j, none⟩ u) := by
  have key : ∀ (k : Nat) (o : Obj), W.heap[k]? = some o → k ≠ N → (W'.setCell ⟨N, j, none⟩ u).heap[k]? = some o := fun k o hk n2 => by
    rw [Below.heap_setCell _ _ _ _ (by exact n2), b.block k (Array.getElem?_eq_some_iff.1 hk).1, hk]
  exact ⟨by simp only [World.setCell, Array.size_modify]; exact b.size, fun k cs hk => key k _ hk (fun e => by subst e; rw [h] at hk; cases hk), fun k cs hk _ => key k _ hk (fun e => by subst e; rw [h] at hk; cases hk)⟩
theorem set3_heap8 {W : World} {r : Nat} (h : W.heap[r]? = some (.cells (cnt8 0 0 0) 196 (0, 0))) (a b c : Value) :
    (((W.setCell ⟨r, 0, none⟩ a).setCell ⟨r, 1, none⟩ b).setCell ⟨r, 2, none⟩ c).heap[r]? = some (.cells #[a, b, c] 196 (0, 0)) ∧ (∀ (k : Nat) (o : Obj), W.heap[k]? = some o → k ≠ r → (((W.setCell ⟨r, 0, none⟩ a).setCell ⟨r, 1, none⟩ b).setCell ⟨r, 2, none⟩ c).heap[k]? = some o) ∧ Below r W (((W.setCell ⟨r, 0, none⟩ a).setCell ⟨r, 1, none⟩ b).setCell ⟨r, 2, none⟩ c) := by
  have h1 := heap_set_at W r 0 a _ _ _ h
  have h2 := heap_set_at _ r 1 b _ _ _ h1
  have h3 := heap_set_at _ r 2 c _ _ _ h2
  refine ⟨h3, fun k o hk hn => ?_, (((Below.refl _ _).setCell (p := ⟨r, 0, none⟩) (Nat.le_refl _) _).setCell (p := ⟨r, 1, none⟩) (Nat.le_refl _) _).setCell (p := ⟨r, 2, none⟩) (Nat.le_refl _) _⟩
  rw [Below.heap_setCell _ _ _ _ (by exact hn), Below.heap_setCell _ _ _ _ (by exact hn), Below.heap_setCell _ _ _ _ (by exact hn), hk]
/-- What count has behind some pieces. -/
def CI8 (E : List Op5) (w : World) (r N : Nat) (pre : List PZ) (W : World) : Prop := W.heap[N]? = some (.cells (cnt8 (sumK8 (E.take pre.length)) (sumI8 (E.take pre.length)) (sumD8 (E.take pre.length))) 196 (0, 0)) ∧ W.heap[r]? = some (.cells (cnt8 0 0 0) 196 (0, 0)) ∧ Below w.heap.size w W
theorem sumK8_append (E F : List Op5) : sumK8 (E ++ F) = sumK8 E + sumK8 F := by unfold sumK8; rw [List.map_append, List.sum_append]
theorem sumI8_append (E F : List Op5) : sumI8 (E ++ F) = sumI8 E + sumI8 F := by unfold sumI8; rw [List.map_append, List.sum_append]
theorem sumD8_append (E F : List Op5) : sumD8 (E ++ F) = sumD8 E + sumD8 F := by unfold sumD8; rw [List.map_append, List.sum_append]
theorem others8 {w w' : World} (h : Below w.heap.size w w') : KeepsOthers w w' :=
  ⟨h.size, fun k o hk _ => (h.block k (Array.getElem?_eq_some_iff.1 hk).1).trans hk⟩
/-- Behind a round. -/
theorem ci_step {E : List Op5} {w W W' : World} {r N B j : Nat} {pre : List PZ} {x : PZ} {e : Op5} {u : Int} (hI : CI8 E w r N pre W) (he : E[pre.length]? = some e) (hN : w.heap.size ≤ N) (hrN : r ≠ N) (b : Below W.heap.size W W')
    (hu : (cnt8 (sumK8 (E.take pre.length)) (sumI8 (E.take pre.length)) (sumD8 (E.take pre.length))).setIfInBounds j (.int .i64 u) = cnt8 (sumK8 (E.take pre.length) + kpO8 e) (sumI8 (E.take pre.length) + insO8 e) (sumD8 (E.take pre.length) + dlO8 e)) :
    KeepsFrom B W (W'.setCell ⟨N, j, none⟩ (.int .i64 u)) ∧ KZ pre x W (W'.setCell ⟨N, j, none⟩ (.int .i64 u)) ∧ CI8 E w r N (pre ++ [x]) (W'.setCell ⟨N, j, none⟩ (.int .i64 u)) := by
  obtain ⟨h1, h2, h3⟩ := hI
  have h1' := heap_below b h1
  have hT : E.take (pre ++ [x]).length = E.take pre.length ++ [e] := by rw [List.length_append, List.length_singleton, List.take_add_one, he]; rfl
  refine ⟨((others8 b).trans (KeepsOthers.setCell _ _ _)).from _, KZ.set8 b h1 _, ?_, ?_, (h3.trans (b.mono h3.size)).setCell (p := ⟨N, j, none⟩) hN _⟩
  · rw [heap_set_at W' _ j _ _ _ _ h1', hT, sumK8_append, sumI8_append, sumD8_append]
    have e1 : sumK8 [e] = kpO8 e := by simp [sumK8]
    have e2 : sumI8 [e] = insO8 e := by simp [sumI8]
    have e3 : sumD8 [e] = dlO8 e := by simp [sumD8]
    rw [e1, e2, e3, hu]
  · rw [Below.heap_setCell _ _ _ _ (by exact hrN)]
    exact heap_below b h2
theorem fits_pre8 {E : List Op5} (hw : ∀ o ∈ E, Wel o) (hf : sumB E ≤ 1099511627776 ∧ sumR E ≤ 1099511627776) (k : Nat) : (0 ≤ sumK8 (E.take k) ∧ sumK8 (E.take k) ≤ 1099511627776) ∧ (0 ≤ sumI8 (E.take k) ∧ sumI8 (E.take k) ≤ 1099511627776) ∧ 0 ≤ sumD8 (E.take k) ∧ sumD8 (E.take k) ≤ 1099511627776 := by
  have h1 := sums_three (E := E.take k) fun o ho => hw o (List.mem_of_mem_take ho)
  have h2 := sums_three (E := E.drop k) fun o ho => hw o (List.mem_of_mem_drop ho)
  have h3 := sums_three hw
  have e1 := sumK8_append (E.take k) (E.drop k)
  have e2 := sumI8_append (E.take k) (E.drop k)
  have e3 := sumD8_append (E.take k) (E.drop k)
  rw [List.take_append_drop] at e1 e2 e3
  omega
theorem len_pre8 {E : List Op5} (hg : ∀ o ∈ E, opE o = 0) (hf : sumB E ≤ 1099511627776 ∧ sumR E ≤ 1099511627776) {e : Op5} (he : e ∈ E) : 1 ≤ len5 e ∧ len5 e ≤ 1099511627776 := by
  have hw : ∀ o ∈ E, Wel o := fun o ho => wel_of (hg o ho)
  obtain ⟨h1, h2⟩ := mem_sums hw he
  have hp := len5_pos (hg e he)
  refine ⟨hp, ?_⟩
  unfold baseO resO at *
  rcases (hw e he).kinds with hk | hk | hk | hk <;> simp [hk] at h1 h2 <;> omega
set_option maxHeartbeats 4000000 in
set_option maxRecDepth 100000 in
theorem count8_any {B1 B2 : Nat} (v : Value) (E : List Op5) (w : World) (h : DelV w B1 B2 v E) (hg : ∀ o ∈ E, opE o = 0) (hA : ∀ o ∈ E, o.A.length ≤ 2097152) (hl : E.length ≤ 4194304) (hf : sumB E ≤ 1099511627776 ∧ sumR E ≤ 1099511627776) :
    Calls Tryz.prog 133 #[v] w fun e w' => e = .returned (.agg (cnt8 (sumK8 E) (sumI8 E) (sumD8 E))) ∧ Below w.heap.size w w' := by
  have b1 : Below w.heap.size w ((w.alloc (.cells (cnt8 0 0 0) 196)).alloc (.cells (cnt8 0 0 0) 196)) := ((Below.refl _ _).alloc (Nat.le_refl _) _).alloc (by simp) _
  have n1 : ((w.alloc (.cells (cnt8 0 0 0) 196)).alloc (.cells (cnt8 0 0 0) 196)).heap[w.heap.size + 1]? = some (.cells (cnt8 0 0 0) 196 (0, 0)) := by
    have := heap_alloc_new (w.alloc (.cells (cnt8 0 0 0) 196)) (.cells (cnt8 0 0 0) 196)
    rwa [World.size_alloc] at this
  have n2 : ((w.alloc (.cells (cnt8 0 0 0) 196)).alloc (.cells (cnt8 0 0 0) 196)).heap[w.heap.size]? = some (.cells (cnt8 0 0 0) 196 (0, 0)) :=
    heap_below ((Below.refl _ _).alloc (Nat.le_refl _) _) (heap_alloc_new w _)
  have cE := each7_call v E _ (h.below b1)
  have hw : ∀ o ∈ E, Wel o := fun o ho => wel_of (hg o ho)
  have HE : Hid ((∀ o ∈ E, opE o = 0) ∧ (∀ o ∈ E, o.A.length ≤ 2097152) ∧ E.length ≤ 4194304 ∧ (sumB E ≤ 1099511627776 ∧ sumR E ≤ 1099511627776) ∧ ∀ o ∈ E, Wel o) := ⟨hg, hA, hl, hf, hw⟩
  have H1 : Hid (CI8 E w w.heap.size (w.heap.size + 1) [] ((w.alloc (.cells (cnt8 0 0 0) 196)).alloc (.cells (cnt8 0 0 0) 196))) := ⟨n1, n2, b1⟩
  obtain ⟨q, pv, PL, rfl, _⟩ := h
  clear hg hA hl hf hw b1 n1 n2
  refine (callsIn_wide (n := 5)).1 ?_
  refine callsIn_of_wp_marks Tryz.func133 rfl trivial ?_ rfl
  simp only [Tryz.ntmps133, List.size_toArray, List.length_cons, List.length_nil, Nat.reduceAdd, Nat.reduceSub, Array.replicate_succ, Array.replicate_zero, List.push_toArray, List.append_toArray, List.nil_append, List.cons_append]
  rw [wpIn_wide]
  go_wp2_with fail
  refine cE.mono ?_; rintro r w2 ⟨x, rfl, hx, -, b2⟩
  have H2 : Hid (CI8 E w w.heap.size (w.heap.size + 1) [] w2 ∧ BoxD w2 x B1 B2 E) := ⟨⟨heap_below b2 H1.out.1, heap_below b2 H1.out.2.1, H1.out.2.2.trans (b2.mono H1.out.2.2.size)⟩, hx⟩
  have hsz : w.heap.size + 1 < w2.heap.size := (Array.getElem?_eq_some_iff.1 H2.out.1.1).1
  clear cE hx b2 H1
  go_wp2_with fail
  refine (wpIn_wide (n := 5)).1 ?_
  refine wpIn_rangeFunc_G (encs := encZ) rfl (by decide) (gf := 93) (lb := #[.pointer (some ⟨x, 0, none⟩)]) rfl trivial (enters_of Tryz.func93 (by kernel_rfl) rfl)
    (each7_seq E w2 x B1 B2 H2.out.2 HE.out.1 HE.out.2.1 HE.out.2.2.1 4 (by decide)) (Below.refl _ _) (fun _ => rfl) (fun pre x A A' h k => h.bk k) (fun pre x A A' B B' k1 h k2 => KZ.bk k1 h k2)
    (CI8 E w w.heap.size (w.heap.size + 1)) (fun _ _ _ => False)
    (fun s A A' h k => ⟨k.kept _ _ h.1 (.inl hsz), k.kept _ _ h.2.1 (.inl (by omega)), tr_below8 h.2.2 (Nat.le_refl _) (by omega) k⟩) (fun _ _ _ _ h _ => h) H2.out.1 ?a1 ?assign ?body ?done ?stop
  case assign =>
    intro l x W K hK
    gi_wp2
    exact hK
  case body =>
    rintro l pre x W hI ⟨e, s', he, hx, _⟩
    obtain ⟨x1, xlo, xhi⟩ := x
    simp only at hx
    subst hx
    have HI : Hid (CI8 E w w.heap.size (w.heap.size + 1) pre W ∧ E[pre.length]? = some e) := ⟨hI, he⟩
    have hge := HE.out.1 e (List.mem_of_getElem? he)
    obtain ⟨K, hK⟩ : ∃ x, sumK8 (E.take pre.length) = x := ⟨_, rfl⟩
    obtain ⟨I, hI'⟩ : ∃ x, sumI8 (E.take pre.length) = x := ⟨_, rfl⟩
    obtain ⟨D, hD⟩ : ∃ x, sumD8 (E.take pre.length) = x := ⟨_, rfl⟩
    have hc := HI.out.1.1
    rw [hK, hI', hD] at hc
    have c0 : W.cell? ⟨w.heap.size + 1, 0, none⟩ = some (.int .i64 K) := by rw [cell_of_heap hc]; rfl
    have c1 : W.cell? ⟨w.heap.size + 1, 1, none⟩ = some (.int .i64 I) := by rw [cell_of_heap hc]; rfl
    have c2 : W.cell? ⟨w.heap.size + 1, 2, none⟩ = some (.int .i64 D) := by rw [cell_of_heap hc]; rfl
    have HC : Hid (∀ W', Below W.heap.size W W' → (W'.cell? ⟨w.heap.size + 1, 0, none⟩ = some (.int .i64 K) ∧ W'.cell? ⟨w.heap.size + 1, 1, none⟩ = some (.int .i64 I) ∧ W'.cell? ⟨w.heap.size + 1, 2, none⟩ = some (.int .i64 D)) ∧ W'.frozen? ⟨w.heap.size + 1, 0, none⟩ = false ∧ W'.frozen? ⟨w.heap.size + 1, 1, none⟩ = false ∧ W'.frozen? ⟨w.heap.size + 1, 2, none⟩ = false) := fun W' hb => ⟨⟨(hb.cell (lt_of_cell c0)).trans c0, (hb.cell (lt_of_cell c1)).trans c1, (hb.cell (lt_of_cell c2)).trans c2⟩, frozen_of_heap (heap_below hb hc) 0, frozen_of_heap (heap_below hb hc) 1, frozen_of_heap (heap_below hb hc) 2⟩
    have bd : Below W.heap.size W W.drew := (Below.refl _ _).drew
    have md := HC.out _ bd
    obtain ⟨L, hL⟩ : ∃ x, len5 e = x := ⟨_, rfl⟩
    have hr : ((0 ≤ K ∧ K ≤ 1099511627776) ∧ (0 ≤ I ∧ I ≤ 1099511627776) ∧ (0 ≤ D ∧ D ≤ 1099511627776)) ∧ 1 ≤ L ∧ L ≤ 1099511627776 := by
      have h1 := fits_pre8 HE.out.2.2.2.2 HE.out.2.2.2.1 pre.length
      have h2 := len_pre8 HE.out.1 HE.out.2.2.2.1 (List.mem_of_getElem? he)
      rw [hK, hI', hD] at h1
      rw [hL] at h2
      exact ⟨h1, h2⟩
    replace hK : Hid (sumK8 (E.take pre.length) = K ∧ sumI8 (E.take pre.length) = I ∧ sumD8 (E.take pre.length) = D ∧ len5 e = L) := ⟨hK, hI', hD, hL⟩
    clear hI he hc c0 c1 c2 hI' hD
    rcases kinds_of hge with hk | hk | hk | hk
    · have hu : Hid (kpO8 e = 0 ∧ insO8 e = len5 e ∧ dlO8 e = 0) := by show _ ∧ _ ∧ _; unfold kpO8 dlO8 insO8; simp [hk]
      have hl := (len5_1 hk).symm.trans hL
      rw [pieceQ_1 hk]
      have a0 := as_i_r
      have a1 := as_i_d
      rw [hl]
      have hz : IntKind.i64.wrap (I + L) = I + L := by rw [IntKind.wrap_i64]; omega
      have hm : ∀ W : World, (method 359 183 (.agg #[s', .string e.t, .int .i64 L]) "Len").run Tryz.prog W = .ok (198, .agg #[s', .string e.t, .int .i64 L]) W := fun _ => by kernel_rfl
      have cLen : Hid (∀ W', Below W.heap.size W W' → Calls Tryz.prog 198 #[.agg #[s', .string e.t, .int .i64 L]] W' fun r w' => r = .returned (.int .i64 L) ∧ Below W.heap.size W w') := fun W' hW => from_below hW (ilen_any s' e.t L W')
      clear hk hl
      gi_wp2
      gi_region_with (refine ⟨trivial, (CallsIn.inRound l (callsIn_wide.2 (cLen.out _ bd))).mono ?_⟩; rintro r wA ⟨rfl, bA⟩; have mA := HC.out wA bA)
      all_goals (gi_wp2)
      all_goals exact ci_step HI.out.1 HI.out.2 (by omega) (by omega) bA (by rw [hK.out.1, hK.out.2.1, hK.out.2.2.1, hu.out.1, hu.out.2.1, hu.out.2.2, hK.out.2.2.2]; simp)
    · have hu : Hid (kpO8 e = 0 ∧ insO8 e = len5 e ∧ dlO8 e = 0) := by show _ ∧ _ ∧ _; unfold kpO8 dlO8 insO8; simp [hk]
      have hl := (len5_2 hk).symm.trans hL
      rw [pieceQ_2 hk]
      have a0 := as_e_r
      have a1 := as_e_d
      obtain ⟨V, hV⟩ : ∃ V, valP e.v = V := ⟨_, rfl⟩
      rw [hV]
      have hz : IntKind.i64.wrap (I + L) = I + L := by rw [IntKind.wrap_i64]; omega
      have hm : ∀ W : World, (method 359 187 (.agg #[s', .string e.t, V]) "Len").run Tryz.prog W = .ok (200, .agg #[s', .string e.t, V]) W := fun _ => by kernel_rfl
      have cLen : Hid (∀ W', Below W.heap.size W W' → Calls Tryz.prog 200 #[.agg #[s', .string e.t, V]] W' fun r w' => r = .returned (.int .i64 L) ∧ Below W.heap.size W w') := fun W' hW => from_below hW (by have := elen_any V s' e.t W'; rw [hl] at this; exact this)
      clear hk hl
      gi_wp2
      gi_region_with (refine ⟨trivial, (CallsIn.inRound l (callsIn_wide.2 (cLen.out _ bd))).mono ?_⟩; rintro r wA ⟨rfl, bA⟩; have mA := HC.out wA bA)
      all_goals (gi_wp2)
      all_goals exact ci_step HI.out.1 HI.out.2 (by omega) (by omega) bA (by rw [hK.out.1, hK.out.2.1, hK.out.2.2.1, hu.out.1, hu.out.2.1, hu.out.2.2, hK.out.2.2.2]; simp)
    · have hu : Hid (kpO8 e = len5 e ∧ insO8 e = 0 ∧ dlO8 e = 0) := by show _ ∧ _ ∧ _; unfold kpO8 dlO8 insO8; simp [hk]
      have hl := (len5_3 (.inl hk)).symm.trans hL
      rw [pieceQ_3 hk]
      have a0 := as_r_r
      have a1 := as_r_d
      rw [hl]
      have hz : IntKind.i64.wrap (K + L) = K + L := by rw [IntKind.wrap_i64]; omega
      have hm : ∀ W : World, (method 359 151 (.agg #[s', .int .i64 L]) "Len").run Tryz.prog W = .ok (196, .agg #[s', .int .i64 L]) W := fun _ => by kernel_rfl
      have cLen : Hid (∀ W', Below W.heap.size W W' → Calls Tryz.prog 196 #[.agg #[s', .int .i64 L]] W' fun r w' => r = .returned (.int .i64 L) ∧ Below W.heap.size W w') := fun W' hW => from_below hW (rlen_any s' L W')
      clear hk hl
      gi_wp2
      gi_region_with (refine ⟨trivial, (CallsIn.inRound l (callsIn_wide.2 (cLen.out _ bd))).mono ?_⟩; rintro r wA ⟨rfl, bA⟩; have mA := HC.out wA bA)
      all_goals (gi_wp2)
      all_goals exact ci_step HI.out.1 HI.out.2 (by omega) (by omega) bA (by rw [hK.out.1, hK.out.2.1, hK.out.2.2.1, hu.out.1, hu.out.2.1, hu.out.2.2, hK.out.2.2.2]; simp)
    · have hu : Hid (kpO8 e = 0 ∧ insO8 e = 0 ∧ dlO8 e = len5 e) := by show _ ∧ _ ∧ _; unfold kpO8 dlO8 insO8; simp [hk]
      have hl := (len5_3 (.inr hk)).symm.trans hL
      rw [pieceQ_4 hk]
      have a0 := as_d_r
      have a1 := as_d_d
      rw [hl]
      have hz : IntKind.i64.wrap (D + L) = D + L := by rw [IntKind.wrap_i64]; omega
      have hm : ∀ W : World, (method 359 97 (.agg #[.int .i64 L]) "Len").run Tryz.prog W = .ok (194, .agg #[.int .i64 L]) W := fun _ => by kernel_rfl
      have cLen : Hid (∀ W', Below W.heap.size W W' → Calls Tryz.prog 194 #[.agg #[.int .i64 L]] W' fun r w' => r = .returned (.int .i64 L) ∧ Below W.heap.size W w') := fun W' hW => from_below hW (dlen_any L W')
      clear hk hl
      gi_wp2
      gi_region_with (refine ⟨trivial, (CallsIn.inRound l (callsIn_wide.2 (cLen.out _ bd))).mono ?_⟩; rintro r wA ⟨rfl, bA⟩; have mA := HC.out wA bA)
      all_goals (gi_wp2)
      all_goals exact ci_step HI.out.1 HI.out.2 (by omega) (by omega) bA (by rw [hK.out.1, hK.out.2.1, hK.out.2.2.1, hu.out.1, hu.out.2.1, hu.out.2.2, hK.out.2.2.2]; simp)
  case stop => intro D c pre W _ h; exact h.elim
  case done =>
    rintro D xs W hD hS ⟨hN, hR, hB⟩ hK
    rw [hS, List.take_length] at hN
    have c0 : W.cell? ⟨w.heap.size + 1, 0, none⟩ = some (.int .i64 (sumK8 E)) := by rw [cell_of_heap hN]; rfl
    have c1 : W.cell? ⟨w.heap.size + 1, 1, none⟩ = some (.int .i64 (sumI8 E)) := by rw [cell_of_heap hN]; rfl
    have c2 : W.cell? ⟨w.heap.size + 1, 2, none⟩ = some (.int .i64 (sumD8 E)) := by rw [cell_of_heap hN]; rfl
    have r0 : W.cell? ⟨w.heap.size, 0, none⟩ = some (.int .i64 0) := by rw [cell_of_heap hR]; rfl
    have r1 : W.cell? ⟨w.heap.size, 1, none⟩ = some (.int .i64 0) := by rw [cell_of_heap hR]; rfl
    have r2 : W.cell? ⟨w.heap.size, 2, none⟩ = some (.int .i64 0) := by rw [cell_of_heap hR]; rfl
    have f0 := frozen_of_heap hR 0
    have f1 := frozen_of_heap hR 1
    have f2 := frozen_of_heap hR 2
    have HF : Hid (w.heap.size ≤ D ∧ W.heap[D]? = some (.deferred (some [])) ∧ W.heap[w.heap.size]? = some (.cells (cnt8 0 0 0) 196 (0, 0)) ∧ Below w.heap.size w W) := ⟨by omega, hK, hR, hB⟩
    clear hN hS hR hB hK hD
    gi_wp2
    go_wp2
    obtain ⟨z1, z2, z3, z4⟩ := HF.out
    obtain ⟨y1, y2, y3⟩ := set3_heap8 z3 (.int .i64 (sumK8 E)) (.int .i64 (sumI8 E)) (.int .i64 (sumD8 E))
    exact count_leave w _ D w.heap.size _ _ _ _ rfl y1 (y2 D _ z2 (fun e => by subst e; rw [z3] at z2; cases z2)) z1 (z4.trans y3)
end Go.Proofs.YtplnojapnaaakaaGreatDoor

/- measure: Base, Result, Inserted, Deleted, Document, Concat, Shift. -/
namespace Go.Proofs.YtplnojapnaaakaaGreatDoor
open Go Go.RowKit Go.Lib
set_option linter.unusedVariables false
theorem cbase_any (k i d : Int) (w : World) (h : (0 ≤ k ∧ k ≤ 1099511627776) ∧ 0 ≤ d ∧ d ≤ 1099511627776) :
    Calls Tryz.prog 135 #[.agg (cnt8 k i d)] w fun e w' => e = .returned (.int .i64 (k + d)) ∧ Below w.heap.size w w' := by
  have hz : IntKind.i64.wrap (k + d) = k + d := by rw [IntKind.wrap_i64]; omega
  go_enter Tryz.func135, Tryz.ntmps135
  go_wp2
  go_ret
  exact ⟨rfl, (Below.refl _ _).alloc (Nat.le_refl _) _⟩
theorem cresult_any (k i d : Int) (w : World) (h : (0 ≤ k ∧ k ≤ 1099511627776) ∧ 0 ≤ i ∧ i ≤ 1099511627776) :
    Calls Tryz.prog 134 #[.agg (cnt8 k i d)] w fun e w' => e = .returned (.int .i64 (k + i)) ∧ Below w.heap.size w w' := by
  have hz : IntKind.i64.wrap (k + i) = k + i := by rw [IntKind.wrap_i64]; omega
  go_enter Tryz.func134, Tryz.ntmps134
  go_wp2
  go_ret
  exact ⟨rfl, (Below.refl _ _).alloc (Nat.le_refl _) _⟩
/-- What is known of a delta's list. -/
structure DlE (w : World) (B1 B2 : Nat) (v : Value) (E : List Op5) : Prop where
  d : DelV w B1 B2 v E
  g : ∀ o ∈ E, opE o = 0
  fit : ∀ o ∈ E, FitA o
  len : E.length ≤ 2097152
  txt : txtS E ≤ 4194304
  fits : Fits8 E
theorem DlE.below {w w' : World} {B1 B2 : Nat} {v : Value} {E : List Op5} (h : DlE w B1 B2 v E) (b : Below w.heap.size w w') : DlE w' B1 B2 v E := ⟨h.d.below b, h.g, h.fit, h.len, h.txt, h.fits⟩
theorem DlE.wel {w : World} {B1 B2 : Nat} {v : Value} {E : List Op5} (h : DlE w B1 B2 v E) : ∀ o ∈ E, Wel o := fun o ho => wel_of (h.g o ho)
theorem DlE.n {w : World} {B1 B2 : Nat} {v : Value} {E : List Op5} (h : DlE w B1 B2 v E) : ∀ o ∈ E, o.A.length ≤ 2097152 := fun o ho => by have := (h.fit o ho).n; omega
theorem DlE.sums {w : World} {B1 B2 : Nat} {v : Value} {E : List Op5} (h : DlE w B1 B2 v E) : (0 ≤ sumK8 E ∧ sumK8 E ≤ 1099511627776) ∧ (0 ≤ sumI8 E ∧ sumI8 E ≤ 1099511627776) ∧ (0 ≤ sumD8 E ∧ sumD8 E ≤ 1099511627776) ∧ sumB E = sumK8 E + sumD8 E ∧ sumR E = sumK8 E + sumI8 E := by
  have h1 := sums_three h.wel
  have h2 := h.fits
  unfold Fits8 at h2
  omega
theorem count_any8 {B1 B2 : Nat} (v : Value) (E : List Op5) (w : World) (h : DlE w B1 B2 v E) :
    Calls Tryz.prog 133 #[v] w fun e w' => e = .returned (.agg (cnt8 (sumK8 E) (sumI8 E) (sumD8 E))) ∧ Below w.heap.size w w' :=
  count8_any v E w h.d h.g h.n (Nat.le_trans h.len (by decide)) h.fits
theorem base8_any {B1 B2 : Nat} (v : Value) (E : List Op5) (w : World) (h : DlE w B1 B2 v E) :
    Calls Tryz.prog 111 #[v] w fun e w' => e = .returned (.int .i64 (sumB E)) ∧ Below w.heap.size w w' := by
  have c := count_any8 v E w h
  have hs := h.sums
  have c2 := fun W => cbase_any (sumK8 E) (sumI8 E) (sumD8 E) W ⟨hs.1, hs.2.2.1⟩
  rw [← hs.2.2.2.1] at c2
  obtain ⟨q, pv, PL, rfl, _⟩ := h.d
  clear hs h
  go_enter Tryz.func111, Tryz.ntmps111
  go_wp2_with fail
  refine c.mono ?_; rintro r w2 ⟨rfl, b2⟩
  go_wp2_with fail
  refine (c2 _).mono ?_; rintro r w3 ⟨rfl, b3⟩
  have b := b2.trans (b3.mono b2.size)
  go_wp2
  go_ret
  exact ⟨rfl, b⟩
theorem result8_any {B1 B2 : Nat} (v : Value) (E : List Op5) (w : World) (h : DlE w B1 B2 v E) :
    Calls Tryz.prog 107 #[v] w fun e w' => e = .returned (.int .i64 (sumR E)) ∧ Below w.heap.size w w' := by
  have c := count_any8 v E w h
  have hs := h.sums
  have c2 := fun W => cresult_any (sumK8 E) (sumI8 E) (sumD8 E) W ⟨hs.1, hs.2.1⟩
  rw [← hs.2.2.2.2] at c2
  obtain ⟨q, pv, PL, rfl, _⟩ := h.d
  clear hs h
  go_enter Tryz.func107, Tryz.ntmps107
  go_wp2_with fail
  refine c.mono ?_; rintro r w2 ⟨rfl, b2⟩
  go_wp2_with fail
  refine (c2 _).mono ?_; rintro r w3 ⟨rfl, b3⟩
  have b := b2.trans (b3.mono b2.size)
  go_wp2
  go_ret
  exact ⟨rfl, b⟩
set_option maxRecDepth 100000 in
theorem dl8_any {B1 B2 : Nat} (v : Value) (E : List Op5) (w : World) (h : DlE w B1 B2 v E) :
    Calls Tryz.prog 108 #[v] w fun e w' => e = .returned (.int .i64 (sumD8 E)) ∧ Below w.heap.size w w' := by
  have c := count_any8 v E w h
  obtain ⟨q, pv, PL, rfl, _⟩ := h.d
  obtain ⟨K, hK⟩ : ∃ x, sumK8 E = x := ⟨_, rfl⟩
  obtain ⟨I, hI⟩ : ∃ x, sumI8 E = x := ⟨_, rfl⟩
  obtain ⟨D, hD⟩ : ∃ x, sumD8 E = x := ⟨_, rfl⟩
  rw [hK, hI, hD] at c
  rw [hD]
  have hfld : ∀ W : World, (Instr.field 196 (.agg #[.int .i64 K, .int .i64 I, .int .i64 D]) 2).run Tryz.prog W = .ok (.int .i64 D) W := fun _ => by kernel_rfl
  unfold cnt8 at c
  clear h hK hI hD
  go_enter Tryz.func108, Tryz.ntmps108
  go_wp2_with fail
  refine c.mono ?_; rintro r w2 ⟨rfl, b2⟩
  go_wp2
  go_ret
  exact ⟨rfl, b2⟩
theorem doc8_any {B1 B2 : Nat} (v : Value) (E : List Op5) (w : World) (h : DlE w B1 B2 v E) :
    Calls Tryz.prog 109 #[v] w fun e w' => e = .returned (.bool (sumB E == 0)) ∧ Below w.heap.size w w' := by
  have c := base8_any v E w h
  obtain ⟨q, pv, PL, rfl, _⟩ := h.d
  clear h
  go_enter Tryz.func109, Tryz.ntmps109
  go_wp2_with fail
  refine c.mono ?_; rintro r w2 ⟨rfl, b2⟩
  go_wp2
  go_ret
  exact ⟨rfl, b2⟩
theorem delV_low {w : World} {B1 B2 C : Nat} {v : Value} {E : List Op5} (h : DelV w B1 B2 v E) (h1 : C ≤ B1) (h2 : C ≤ B2) : DelV w C C v E := by
  obtain ⟨q, pv, PL, x1, x2, x3, x4, x5⟩ := h
  exact ⟨q, pv, PL, x1, Nat.le_trans h1 x2, x3, own_weaken x4 h1, x5.weaken h2⟩
end Go.Proofs.YtplnojapnaaakaaGreatDoor

/- apply: which pairs are refused; Fits. -/
namespace Go.Proofs.YtplnojapnaaakaaGreatDoor
open Go Go.RowKit Go.Lib
set_option linter.unusedVariables false
/-- The number of the error of so many cells and a delta of these lengths. -/
def lenE10 (c b r : Int) : Nat := if c < b then 12 else if 1099511627776 < c - b + r then 11 else 0
/-- The number of the error of a pair. -/
def chkE10 (E F : List Op5) : Nat := if sumB E = 0 then lenE10 (sumR E) (sumB F) (sumR F) else 9
theorem chkLen10_any {I : List Nat} {a : Nat → Addr} (c b r : Int) (w : World) (hS : Std I a w) (h10 : 10 ∈ I) (h11 : 11 ∈ I) (hr : (0 ≤ c ∧ c ≤ 1099511627776) ∧ (0 ≤ b ∧ b ≤ 1099511627776) ∧ 0 ≤ r ∧ r ≤ 1099511627776) :
    Calls Tryz.prog 110 #[.int .i64 c, .int .i64 b, .int .i64 r] w fun e w' => e = .returned (errOf a (lenE10 c b r)) ∧ Below w.heap.size w w' := by
  have g1 : w.cell? ⟨1, 0, none⟩ = some (errV a 11) := hS.er.cell 11 h11
  have g2 : w.cell? ⟨12, 0, none⟩ = some (errV a 10) := hS.er.cell 10 h10
  have z1 : IntKind.i64.wrap (c - b) = c - b := by rw [IntKind.wrap_i64]; omega
  have z2 : IntKind.i64.wrap (c - b + r) = c - b + r := by rw [IntKind.wrap_i64]; omega
  have e1 : errOf a 12 = errV a 11 := rfl
  have e2 : errOf a 11 = errV a 10 := rfl
  have e3 : errOf a 0 = .nilIface := rfl
  clear hS
  unfold lenE10
  by_cases h1 : c < b
  · rw [if_pos h1, e1]
    have h1' : b > c := h1
    go_enter Tryz.func110, Tryz.ntmps110
    go_wp2
    go_ret
    exact ⟨rfl, Below.refl _ _⟩
  · rw [if_neg h1]
    have h1' : ¬ b > c := h1
    by_cases h2 : 1099511627776 < c - b + r
    · rw [if_pos h2, e2]
      have h2' : c - b + r > 1099511627776 := h2
      go_enter Tryz.func110, Tryz.ntmps110
      go_wp2
      go_ret
      exact ⟨rfl, Below.refl _ _⟩
    · rw [if_neg h2, e3]
      have h2' : ¬ c - b + r > 1099511627776 := h2
      go_enter Tryz.func110, Tryz.ntmps110
      go_wp2
      go_ret
      exact ⟨rfl, Below.refl _ _⟩
theorem check10_any {I : List Nat} {a : Nat → Addr} {B1 B2 C1 C2 : Nat} (v u : Value) (E F : List Op5) (w : World) (hS : Std I a w) (h8 : 8 ∈ I) (h10 : 10 ∈ I) (h11 : 11 ∈ I) (hE : DlE w B1 B2 v E) (hF : DlE w C1 C2 u F) :
    Calls Tryz.prog 78 #[v, u] w fun e w' => e = .returned (errOf a (chkE10 E F)) ∧ Below w.heap.size w w' := by
  have c1 := doc8_any v E w hE
  have c2 : Hid (∀ W, Below w.heap.size w W → Calls Tryz.prog 107 #[v] W fun e w' => e = .returned (.int .i64 (sumR E)) ∧ Below W.heap.size W w') := fun W b => result8_any v E W (hE.below b)
  have c3 : Hid (∀ W, Below w.heap.size w W → Calls Tryz.prog 111 #[u] W fun e w' => e = .returned (.int .i64 (sumB F)) ∧ Below W.heap.size W w') := fun W b => base8_any u F W (hF.below b)
  have c4 : Hid (∀ W, Below w.heap.size w W → Calls Tryz.prog 107 #[u] W fun e w' => e = .returned (.int .i64 (sumR F)) ∧ Below W.heap.size W w') := fun W b => result8_any u F W (hF.below b)
  have hb1 := hE.sums
  have hb2 := hF.sums
  have hf1 := hE.fits
  have hf2 := hF.fits
  have c5 : Hid (∀ W, Below w.heap.size w W → Calls Tryz.prog 110 #[.int .i64 (sumR E), .int .i64 (sumB F), .int .i64 (sumR F)] W fun e w' => e = .returned (errOf a (lenE10 (sumR E) (sumB F) (sumR F))) ∧ Below W.heap.size W w') := fun W b => chkLen10_any _ _ _ W (hS.below b) h10 h11 (by unfold Fits8 at hf1 hf2; omega)
  have g1 : w.cell? ⟨10, 0, none⟩ = some (errV a 8) := hS.er.cell 8 h8
  obtain ⟨q1, _, _, rfl, _⟩ := hE.d
  obtain ⟨q2, _, _, rfl, _⟩ := hF.d
  have HE : Hid (sumB E = 0 → chkE10 E F = lenE10 (sumR E) (sumB F) (sumR F)) := fun h => if_pos h
  have HN : Hid (sumB E ≠ 0 → chkE10 E F = 9) := fun h => if_neg h
  obtain ⟨rE, hrE⟩ : ∃ x, sumR E = x := ⟨_, rfl⟩
  obtain ⟨bF, hbF⟩ : ∃ x, sumB F = x := ⟨_, rfl⟩
  obtain ⟨rF, hrF⟩ : ∃ x, sumR F = x := ⟨_, rfl⟩
  rw [hrE, hbF, hrF] at HE c5
  rw [hrE] at c2
  rw [hbF] at c3
  rw [hrF] at c4
  clear hb1 hb2 hf1 hf2 hS hE hF hrE hbF hrF
  by_cases h0 : sumB E = 0
  · rw [HE.out h0]
    rw [show (sumB E == 0) = true by rw [h0]; rfl] at c1
    clear HE HN h0
    go_enter Tryz.func78, Tryz.ntmps78
    go_wp2_with fail
    refine c1.mono ?_; rintro r w1 ⟨rfl, b1⟩
    have d2 := c2.out w1 b1
    clear c1 g1
    go_wp2_with fail
    refine d2.mono ?_; rintro r w2 ⟨rfl, b2'⟩
    have b2 := b1.trans (b2'.mono b1.size)
    have d3 := c3.out w2 b2
    go_wp2_with fail
    refine d3.mono ?_; rintro r w3 ⟨rfl, b3'⟩
    have b3 := b2.trans (b3'.mono b2.size)
    have d4 := c4.out w3 b3
    go_wp2_with fail
    refine d4.mono ?_; rintro r w4 ⟨rfl, b4'⟩
    have b4 := b3.trans (b4'.mono b3.size)
    have d5 := c5.out w4 b4
    clear d2 d3 d4 b1 b2 b3 b2' b3' b4' c2 c3 c4 c5
    go_wp2_with fail
    refine d5.mono ?_; rintro r w5 ⟨rfl, b5'⟩
    have b5 := b4.trans (b5'.mono b4.size)
    clear d5 b4 b5'
    go_wp2
    go_ret
    exact ⟨rfl, b5⟩
  · rw [HN.out h0, show errOf a 9 = errV a 8 from rfl]
    rw [show (sumB E == 0) = false by simpa using h0] at c1
    clear HE HN h0 c2 c3 c4 c5
    go_enter Tryz.func78, Tryz.ntmps78
    go_wp2_with fail
    refine c1.mono ?_; rintro r w1 ⟨rfl, b1⟩
    have g1' : w1.cell? ⟨10, 0, none⟩ = some (errV a 8) := (b1.cell (lt_of_cell g1)).trans g1
    clear c1 g1
    go_wp2
    go_ret
    exact ⟨rfl, b1⟩
theorem fits10_any {I : List Nat} {a : Nat → Addr} {B1 B2 C1 C2 : Nat} (v u : Value) (E F : List Op5) (w : World) (hS : Std I a w) (h8 : 8 ∈ I) (h10 : 10 ∈ I) (h11 : 11 ∈ I) (hE : DlE w B1 B2 v E) (hF : DlE w C1 C2 u F) :
    Calls Tryz.prog 35 #[v, u] w fun e w' => e = .returned (.bool (decide (chkE10 E F = 0))) ∧ Below w.heap.size w w' := by
  have c1 := check10_any v u E F w hS h8 h10 h11 hE hF
  obtain ⟨q1, _, _, rfl, _⟩ := hE.d
  obtain ⟨q2, _, _, rfl, _⟩ := hF.d
  obtain ⟨n, hn⟩ : ∃ n, chkE10 E F = n := ⟨_, rfl⟩
  rw [hn] at c1 ⊢
  clear hS hE hF hn
  have K0 : n ≤ 19 ∨ True := .inr trivial
  go_enter Tryz.func35, Tryz.ntmps35
  go_wp2_with fail
  refine c1.mono ?_; rintro r w1 ⟨rfl, b1⟩
  clear c1
  cases n with
  | zero =>
    rw [show errOf a 0 = .nilIface from rfl]
    go_wp2
    go_ret
    exact ⟨rfl, b1⟩
  | succ m =>
    rw [errOf_succ]
    have hq := eql_nil a m
    obtain ⟨t, y, hv⟩ : ∃ t y, errV a m = .iface t y := ⟨_, _, rfl⟩
    rw [hv] at hq ⊢
    clear hv
    go_wp2
    go_ret
    exact ⟨by simp, b1⟩
end Go.Proofs.YtplnojapnaaakaaGreatDoor

/- A document and a delta that applies to it, step by step. -/
namespace Go.Proofs.YtplnojapnaaakaaGreatDoor
open Go Go.RowKit Go.Lib
set_option linter.unusedVariables false
theorem resU_ins : ∀ l : List C5, resU (l.map U6.ins) = l.length
  | [] => rfl
  | c :: r => by
    have := resU_ins r
    simp only [List.map_cons, List.length_cons]
    rw [← this]
    simp [resU]
theorem doc_len10 {E : List Op5} (hE : ∀ o ∈ E, Wel o) (hd : DocL E) : sumR E = (cellsL E).length := by
  rw [sumR_units hE, units_doc hd, resU_ins]
theorem doc10_of {E : List Op5} (hg : ∀ o ∈ E, opE o = 0) (h : sumB E = 0) : DocL E := fun o ho => by
  have hw : ∀ x ∈ E, Wel x := fun x hx => wel_of (hg x hx)
  obtain ⟨h1, _⟩ := mem_sums hw ho
  rw [h] at h1
  have hp := len5_pos (hg o ho)
  have hk := (hw o ho).kinds
  unfold baseO at h1
  rcases hk with hk | hk | hk | hk
  · exact .inl hk
  · exact .inr hk
  · simp [hk] at h1; omega
  · simp [hk] at h1; omega
/-- A pair that isn't refused: the cells behind. -/
theorem chk10_edit {E F : List Op5} (gE : ∀ o ∈ E, opE o = 0) (gF : ∀ o ∈ F, opE o = 0) (h : chkE10 E F = 0) :
    sumB E = 0 ∧ DocL E ∧ ∃ xs, edit (units F) (cellsL E) = some xs ∧ (xs.length : Int) = sumR E - sumB F + sumR F ∧ sumR E - sumB F + sumR F ≤ 1099511627776 ∧ sumB F ≤ sumR E := by
  have wE : ∀ o ∈ E, Wel o := fun o ho => wel_of (gE o ho)
  have wF : ∀ o ∈ F, Wel o := fun o ho => wel_of (gF o ho)
  unfold chkE10 at h
  split at h
  · rename_i h0
    have hd := doc10_of gE h0
    unfold lenE10 at h
    split at h
    · cases h
    · rename_i h1
      split at h
      · cases h
      · rename_i h2
        have hl := doc_len10 wE hd
        have hb := sumB_units wF
        have hr := sumR_units wF
        obtain ⟨xs, hx⟩ := edit_some (U := units F) (cs := cellsL E) (by omega)
        have he := edit_len _ _ _ hx
        exact ⟨h0, hd, xs, hx, by omega, by omega, by omega⟩
  · cases h
theorem nx_doc {R : List Op5} (hd : DocL R) (n : Int) : DocL (nx7 R n).2 := by
  cases R with
  | nil => intro o h; cases h
  | cons x r =>
    have hr : DocL r := fun o ho => hd o (List.mem_cons_of_mem _ ho)
    have hx := hd x (List.mem_cons_self ..)
    by_cases h : len5 x ≤ n
    · rw [nx_all h]; exact hr
    · rw [nx_part h]
      intro o ho
      rcases List.mem_cons.1 ho with rfl | ho
      · unfold tl7
        split
        · exact .inl rfl
        · exact hx
      · exact hr o ho
theorem nx_kind {R : List Op5} (n : Int) : (nx7 R n).1.k = kind7 R := by
  cases R with
  | nil => rfl
  | cons x r =>
    by_cases h : len5 x ≤ n
    · rw [nx_all h]; rfl
    · rw [nx_part h]
      show (hd7 x n).k = x.k
      unfold hd7
      split
      · rename_i k; rw [k]; rfl
      · rfl
theorem st_doc {R S : List Op5} (hd : DocL R) : DocL (st7 R S).2.1 := by
  by_cases h : kind7 S = 1 ∨ kind7 S = 2
  · rw [st_ins h]; exact hd
  · by_cases h2 : kind7 R = 4
    · rw [st_del h h2]; exact nx_doc hd _
    · rw [st_both h h2]; exact nx_doc hd _
theorem it_doc {E F : List Op5} (hd : DocL E) : ∀ k, DocL (it7 E F k).1
  | 0 => hd
  | k + 1 => st_doc (it_doc hd k)
/-- What is told at a step. -/
theorem out_doc10 {E F : List Op5} {N T K : Nat} (hE : Rst E N T K) (hF : Rst F N T K) (hT : T ≤ 8388608) (hN : N ≤ 4194304) (hd : DocL E) {xs : List C5} (h : edit (units F) (cellsL E) = some xs) {k : Nat} (hr : Run7 E F k) (h0 : ¬ ((it7 E F k).1 = [] ∧ (it7 E F k).2 = [])) : Doc10 (out7 E F k).1 (out7 E F k).2 := by
  obtain ⟨hdl, r, _, h3⟩ := gat_doc hE hF hT hN hd h hr
  have hdk := it_doc (F := F) hd k
  obtain ⟨_, rS⟩ := it_rst hE hF hT hN k
  unfold out7
  obtain ⟨R, hR⟩ : ∃ R, (it7 E F k).1 = R := ⟨_, rfl⟩
  obtain ⟨S, hS⟩ : ∃ S, (it7 E F k).2 = S := ⟨_, rfl⟩
  rw [hR, hS] at h3 h0 ⊢
  rw [hR] at hdk
  rw [hS] at rS
  by_cases c1 : kind7 S = 1 ∨ kind7 S = 2
  · rw [st_ins c1]
    exact .inl ⟨rfl, _, rfl, by rw [nx_kind]; exact c1⟩
  · have hSk : kind7 S = 3 ∨ kind7 S = 4 := by
      cases S with
      | nil => exact .inl rfl
      | cons x q =>
        have := (wel_of (rS.good x (List.mem_cons_self ..))).kinds
        have c1' : ¬ (x.k = 1 ∨ x.k = 2) := c1
        show x.k = 3 ∨ x.k = 4
        omega
    have hRn : R ≠ [] := fun e => by
      subst e
      have hSn : S ≠ [] := fun e => h0 ⟨rfl, e⟩
      have hx : compU (units []) (units S) = units S := compU_empty _
      rw [hx] at h3
      cases S with
      | nil => exact hSn rfl
      | cons x q =>
        have hw := wel_of (rS.good x (List.mem_cons_self ..))
        obtain ⟨u, us, hu⟩ := List.exists_cons_of_ne_nil (unitsO_ne hw)
        have hm : u ∈ unitsO x := by rw [hu]; exact List.mem_cons_self ..
        have h4 : units (x :: q) = u :: (us ++ units q) := by
          show unitsO x ++ units q = _
          rw [hu]; rfl
        rw [h4] at h3
        cases r with
        | nil => cases h3
        | cons c r =>
          have h5 : u = .ins c := (List.cons.inj h3).1
          have c1' : ¬ (x.k = 1 ∨ x.k = 2) := c1
          rcases unit_cases hw hm with ⟨a, _⟩ | ⟨a, _⟩ | ⟨_, b⟩ | ⟨_, b⟩
          · exact c1' (.inl a)
          · exact c1' (.inr a)
          · rw [b] at h5; cases h5
          · rw [b] at h5; cases h5
    have hRk : kind7 R = 1 ∨ kind7 R = 2 := by
      cases R with
      | nil => exact absurd rfl hRn
      | cons x q => exact hdk x (List.mem_cons_self ..)
    have c2 : ¬ kind7 R = 4 := by omega
    rw [st_both c1 c2]
    exact .inr ⟨_, _, rfl, rfl, by rw [nx_kind]; exact hRk, by rw [nx_kind]; exact hSk⟩
theorem gat_okE {E F : List Op5} {N T K : Nat} (hE : Rst E N T K) (hF : Rst F N T K) (hT : T + T ≤ 8388608) (hN : N + N ≤ 4194304) (hK : K + K ≤ 1048576) (hd : DocL E) {xs : List C5} (h : edit (units F) (cellsL E) = some xs) (hx : (xs.length : Int) ≤ 1099511627776) {k : Nat} (hr : Run7 E F k) : OkE (gat10 E F k) := by
  have hT' : T ≤ 8388608 := by omega
  have hN' : N ≤ 4194304 := by omega
  obtain ⟨hw, _⟩ := gat_units hE hF hT' hN' k hr
  obtain ⟨hdl, r, h2, h3⟩ := gat_doc hE hF hT' hN' hd h hr
  have ht := gat_txt hE hF hT' hN' hr
  have hl := gat_le E F k
  have hrl := run_len hE hF hT' hN' k hr
  have h5 := hE.len
  have h6 := hF.len
  have h7 := hE.txt
  have h8 := hF.txt
  refine ⟨fun o ho => (hw o ho).good ?_, fun o ho => (gat_fit hE hF hT' hN' hK k o ho).1, by omega, by omega, ?_, ?_⟩
  · have hk := hdl o ho
    have := ((hw o ho).resolve_right (by rintro (⟨a, _⟩ | ⟨a, _⟩) <;> omega)).1.count
    omega
  · rw [sumB_units hw, units_doc hdl]
    have : ∀ l : List C5, baseU (l.map U6.ins) = 0 := fun l => by
      induction l with
      | nil => rfl
      | cons c r ih => simp [baseU]
    rw [this]; decide
  · rw [doc_len10 hw hdl]
    have : (cellsL (gat10 E F k)).length ≤ xs.length := by rw [← h2, List.length_append]; omega
    omega
end Go.Proofs.YtplnojapnaaakaaGreatDoor

/- Stage 10, purely: cells behind a delta with the places that they had; which of them stay, and where they stand then. -/
namespace Go.Proofs.YtplnojapnaaakaaGreatDoor
open Go Go.RowKit Go.Lib
set_option linter.unusedVariables false
theorem baseU_ins (c : C5) (U : List U6) : baseU (.ins c :: U) = baseU U := by simp [baseU]
theorem baseU_keep (A : List A2) (U : List U6) : baseU (.keep A :: U) = baseU U + 1 := by simp [baseU]
theorem baseU_del (U : List U6) : baseU (.del :: U) = baseU U + 1 := by simp [baseU]
theorem resU_insc (c : C5) (U : List U6) : resU (.ins c :: U) = resU U + 1 := by simp [resU]
theorem resU_keep (A : List A2) (U : List U6) : resU (.keep A :: U) = resU U + 1 := by simp [resU]
theorem resU_del (U : List U6) : resU (.del :: U) = resU U := by simp [resU]
theorem baseU_map (l : List C5) : baseU (l.map U6.ins) = 0 := by
  induction l with
  | nil => rfl
  | cons c r ih => rw [List.map_cons, baseU_ins, ih]
theorem baseU_keeps (A : List A2) (n : Nat) : baseU (List.replicate n (.keep A)) = n := by
  induction n with
  | zero => rfl
  | succ n ih => rw [List.replicate_succ, baseU_keep, ih]
theorem baseU_dels (n : Nat) : baseU (List.replicate n .del) = n := by
  induction n with
  | zero => rfl
  | succ n ih => rw [List.replicate_succ, baseU_del, ih]
theorem resU_keeps (A : List A2) (n : Nat) : resU (List.replicate n (.keep A)) = n := by
  induction n with
  | zero => rfl
  | succ n ih => rw [List.replicate_succ, resU_keep, ih]
theorem resU_dels (n : Nat) : resU (List.replicate n .del) = 0 := by
  induction n with
  | zero => rfl
  | succ n ih => rw [List.replicate_succ, resU_del, ih]

/-- A cell of a list, at a place. -/
def atC (cs : List C5) (p : Nat) : C5 := cs[p]?.getD (0, ⟨#[]⟩, z0, [])
theorem atC_of {cs : List C5} {p : Nat} {c : C5} (h : cs[p]? = some c) : atC cs p = c := by unfold atC; rw [h]; rfl
/-- What units make of cells from a place on: each cell with the place that it had (-1: it was inserted). -/
def don (cs : List C5) : List U6 → Nat → List (C5 × Int)
  | [], _ => []
  | .ins c :: u, p => (c, -1) :: don cs u p
  | .keep A :: u, p => (patC (atC cs p) A, (p : Int)) :: don cs u (p + 1)
  | .del :: u, p => don cs u (p + 1)
theorem don_append (cs : List C5) : ∀ (U V : List U6) (p : Nat), don cs (U ++ V) p = don cs U p ++ don cs V (p + baseU U)
  | [], V, p => rfl
  | .ins c :: u, V, p => by
    show (c, (-1 : Int)) :: don cs (u ++ V) p = _
    rw [don_append cs u V p, baseU_ins]; rfl
  | .keep A :: u, V, p => by
    show (patC (atC cs p) A, (p : Int)) :: don cs (u ++ V) (p + 1) = _
    rw [don_append cs u V (p + 1), baseU_keep, show p + 1 + baseU u = p + (baseU u + 1) by omega]; rfl
  | .del :: u, V, p => by
    show don cs (u ++ V) (p + 1) = _
    rw [don_append cs u V (p + 1), baseU_del, show p + 1 + baseU u = p + (baseU u + 1) by omega]; rfl
theorem don_ins (cs l : List C5) (p : Nat) : don cs (l.map U6.ins) p = l.map fun c => (c, (-1 : Int)) := by
  induction l with
  | nil => rfl
  | cons c r ih => rw [List.map_cons, List.map_cons, ← ih]; rfl
theorem don_dels (cs : List C5) : ∀ (n p : Nat), don cs (List.replicate n .del) p = []
  | 0, p => rfl
  | n + 1, p => by rw [List.replicate_succ]; exact don_dels cs n (p + 1)
theorem don_keep1 (cs : List C5) (A : List A2) (k p : Nat) : don cs (List.replicate (k + 1) (.keep A)) p = don cs (List.replicate k (.keep A)) p ++ [(patC (atC cs (p + k)) A, ((p + k : Nat) : Int))] := by
  rw [List.replicate_succ', don_append, baseU_keeps]; rfl
theorem don_len (cs : List C5) : ∀ (U : List U6) (p : Nat), (don cs U p).length = resU U
  | [], _ => rfl
  | .ins c :: u, p => by
    show (don cs u p).length + 1 = _
    rw [don_len cs u p, resU_insc]
  | .keep A :: u, p => by
    show (don cs u (p + 1)).length + 1 = _
    rw [don_len cs u (p + 1), resU_keep]
  | .del :: u, p => by
    show (don cs u (p + 1)).length = _
    rw [don_len cs u (p + 1), resU_del]
theorem drop_at {cs : List C5} {p : Nat} (h : p < cs.length) : cs.drop p = atC cs p :: cs.drop (p + 1) := by
  rw [atC_of (List.getElem?_eq_getElem h), List.drop_eq_getElem_cons h]
theorem run_don (cs : List C5) : ∀ (U : List U6) (p : Nat), p + baseU U ≤ cs.length → runU U (cs.drop p) = some ((don cs U p).map Prod.fst, cs.drop (p + baseU U))
  | [], p, _ => rfl
  | .ins c :: u, p, h => by
    rw [baseU_ins] at h ⊢
    show (runU u (cs.drop p)).map _ = _
    rw [run_don cs u p h]; rfl
  | .keep A :: u, p, h => by
    rw [baseU_keep] at h ⊢
    rw [drop_at (by omega)]
    show (runU u (cs.drop (p + 1))).map _ = _
    rw [run_don cs u (p + 1) (by omega), show p + 1 + baseU u = p + (baseU u + 1) by omega]; rfl
  | .del :: u, p, h => by
    rw [baseU_del] at h ⊢
    rw [drop_at (by omega)]
    show runU u (cs.drop (p + 1)) = _
    rw [run_don cs u (p + 1) (by omega), show p + 1 + baseU u = p + (baseU u + 1) by omega]; rfl
/-- The cells behind the last one that the units reach, with their places. -/
def rst10 (cs : List C5) (p m : Nat) : List (C5 × Int) := (List.range m).map fun j => (atC cs (p + j), ((p + j : Nat) : Int))
theorem rst_succ (cs : List C5) (p m : Nat) : rst10 cs p (m + 1) = rst10 cs p m ++ [(atC cs (p + m), ((p + m : Nat) : Int))] := by
  unfold rst10; rw [List.range_succ, List.map_append]; rfl
theorem rst_drop {cs : List C5} {p : Nat} (h : p ≤ cs.length) : (rst10 cs p (cs.length - p)).map Prod.fst = cs.drop p := by
  apply List.ext_getElem?
  intro i
  unfold rst10
  rw [List.map_map, List.getElem?_map, List.getElem?_drop]
  by_cases hi : i < cs.length - p
  · rw [List.getElem?_range hi]
    have hl : p + i < cs.length := by omega
    rw [List.getElem?_eq_getElem hl]
    show some (atC cs (p + i)) = _
    rw [atC_of (List.getElem?_eq_getElem hl)]
  · rw [List.getElem?_eq_none (by rw [List.length_range]; omega), List.getElem?_eq_none (by omega)]; rfl
/-- All cells behind a delta, each with the place that it had. -/
def doneL (cs : List C5) (U : List U6) : List (C5 × Int) := don cs U 0 ++ rst10 cs (baseU U) (cs.length - baseU U)
theorem done_edit {cs xs : List C5} {U : List U6} (hb : baseU U ≤ cs.length) (h : edit U cs = some xs) : (doneL cs U).map Prod.fst = xs := by
  unfold edit at h
  have := run_don cs U 0 (by omega)
  rw [List.drop_zero, Nat.zero_add] at this
  rw [this] at h
  unfold doneL
  rw [List.map_append, rst_drop hb]
  exact Option.some.inj h

/-! Which stay, and where. -/
def kepI : List Int → Int → List (Int × Int)
  | [], _ => []
  | p :: r, i => if 0 ≤ p then (p, i) :: kepI r (i + 1) else kepI r (i + 1)
def kepU : List U6 → Int → Int → List (Int × Int)
  | [], _, _ => []
  | .ins _ :: u, f, t => kepU u f (t + 1)
  | .keep _ :: u, f, t => (f, t) :: kepU u (f + 1) (t + 1)
  | .del :: u, f, t => kepU u (f + 1) t
theorem kepU_append : ∀ (U V : List U6) (f t : Int), kepU (U ++ V) f t = kepU U f t ++ kepU V (f + baseU U) (t + resU U)
  | [], V, f, t => by show kepU V f t = [] ++ kepU V (f + (0 : Nat)) (t + (0 : Nat)); simp
  | .ins c :: u, V, f, t => by
    show kepU (u ++ V) f (t + 1) = _
    rw [kepU_append u V f (t + 1), baseU_ins, resU_insc, show t + 1 + (resU u : Int) = t + ((resU u + 1 : Nat) : Int) by omega]; rfl
  | .keep A :: u, V, f, t => by
    show (f, t) :: kepU (u ++ V) (f + 1) (t + 1) = _
    rw [kepU_append u V (f + 1) (t + 1), baseU_keep, resU_keep, show t + 1 + (resU u : Int) = t + ((resU u + 1 : Nat) : Int) by omega, show f + 1 + (baseU u : Int) = f + ((baseU u + 1 : Nat) : Int) by omega]; rfl
  | .del :: u, V, f, t => by
    show kepU (u ++ V) (f + 1) t = _
    rw [kepU_append u V (f + 1) t, baseU_del, resU_del, show f + 1 + (baseU u : Int) = f + ((baseU u + 1 : Nat) : Int) by omega]; rfl
theorem kepU_ins (l : List C5) (f t : Int) : kepU (l.map U6.ins) f t = [] := by
  induction l generalizing t with
  | nil => rfl
  | cons c r ih => rw [List.map_cons]; exact ih (t + 1)
theorem kepU_dels (n : Nat) (f t : Int) : kepU (List.replicate n .del) f t = [] := by
  induction n generalizing f with
  | zero => rfl
  | succ n ih => rw [List.replicate_succ]; exact ih (f + 1)
theorem kepU_keep1 (A : List A2) (k : Nat) (f t : Int) : kepU (List.replicate (k + 1) (.keep A)) f t = kepU (List.replicate k (.keep A)) f t ++ [(f + k, t + k)] := by
  rw [List.replicate_succ', kepU_append, baseU_keeps, resU_keeps]; rfl
theorem kepU_any (A B : List A2) : ∀ (n : Nat) (f t : Int), kepU (List.replicate n (.keep A)) f t = kepU (List.replicate n (.keep B)) f t
  | 0, _, _ => rfl
  | n + 1, f, t => by rw [kepU_keep1, kepU_keep1, kepU_any A B n]
theorem kep_don (cs : List C5) : ∀ (U : List U6) (p : Nat) (i : Int), kepI ((don cs U p).map Prod.snd) i = kepU U p i
  | [], _, _ => rfl
  | .ins c :: u, p, i => by
    show kepI ((-1 : Int) :: (don cs u p).map Prod.snd) i = kepU u p (i + 1)
    unfold kepI
    rw [if_neg (by omega)]
    exact kep_don cs u p (i + 1)
  | .keep A :: u, p, i => by
    show kepI ((p : Int) :: (don cs u (p + 1)).map Prod.snd) i = ((p : Int), i) :: kepU u (p + 1) (i + 1)
    unfold kepI
    rw [if_pos (by omega), kep_don cs u (p + 1) (i + 1), Int.natCast_add]; rfl
  | .del :: u, p, i => by
    show kepI ((don cs u (p + 1)).map Prod.snd) i = kepU u (p + 1) i
    rw [kep_don cs u (p + 1) i, Int.natCast_add]; rfl
theorem rst_snd (cs : List C5) (A : List A2) (p : Nat) : ∀ m, (rst10 cs p m).map Prod.snd = (don cs (List.replicate m (.keep A)) p).map Prod.snd
  | 0 => rfl
  | m + 1 => by rw [rst_succ, don_keep1, List.map_append, List.map_append, rst_snd cs A p m]; rfl
/-- The places of all that stays are told by the units, plain retains behind them. -/
theorem done_kep (cs : List C5) (U : List U6) : kepI ((doneL cs U).map Prod.snd) 0 = kepU (U ++ List.replicate (cs.length - baseU U) (.keep [])) 0 0 := by
  have e : (doneL cs U).map Prod.snd = (don cs (U ++ List.replicate (cs.length - baseU U) (.keep [])) 0).map Prod.snd := by
    unfold doneL
    rw [don_append, List.map_append, List.map_append, rst_snd cs [] (baseU U), Nat.zero_add]
  rw [e]
  exact kep_don cs _ 0 0
end Go.Proofs.YtplnojapnaaakaaGreatDoor

/- A document and a delta that applies to it, step by step: how far both are, and which cells stay. -/
namespace Go.Proofs.YtplnojapnaaakaaGreatDoor
open Go Go.RowKit Go.Lib
set_option linter.unusedVariables false
/-- Both pieces of a step are of one length. -/
theorem out_len10 {E F : List Op5} {N T K : Nat} (hE : Rst E N T K) (hF : Rst F N T K) (hT : T ≤ 8388608) (hN : N ≤ 4194304) (k : Nat) {p q : Op5} (h : out7 E F k = (some p, some q)) : len5 p = len5 q := by
  obtain ⟨hR, hS⟩ := it_rst hE hF hT hN k
  unfold out7 at h
  generalize (it7 E F k).1 = R at *
  generalize (it7 E F k).2 = S at *
  have lR := left_range hR hT hN
  have lS := left_range hS hT hN
  by_cases c1 : kind7 S = 1 ∨ kind7 S = 2
  · rw [st_ins c1] at h; cases h
  · by_cases c2 : kind7 R = 4
    · rw [st_del c1 c2] at h; cases h
    · rw [st_both c1 c2] at h
      simp only [Prod.mk.injEq, Option.some.injEq] at h
      obtain ⟨rfl, rfl⟩ := h
      have h1 : 1 ≤ min (left7 R) (left7 S) := by omega
      obtain ⟨_, _, _, _, e1, _⟩ := hR.piece h1
      obtain ⟨_, _, _, _, e2, _⟩ := hS.piece h1
      rw [e1, e2]; omega
/-- How far the document is gone through, how many cells stand behind by then, which stay. -/
def far10 (E F : List Op5) (k : Nat) : Nat := baseU (units (rig7 E F k))
def put10 (E F : List Op5) (k : Nat) : Nat := resU (units (rig7 E F k))
def sty10 (E F : List Op5) (k : Nat) : List (Int × Int) := kepU (units (rig7 E F k)) 0 0
theorem rig_some {E F : List Op5} {k : Nat} {q : Op5} (h : (out7 E F k).2 = some q) : units (rig7 E F (k + 1)) = units (rig7 E F k) ++ unitsO q := by
  rw [rig_succ, h, units_append]
  show _ ++ (unitsO q ++ []) = _
  rw [List.append_nil]
theorem sty_ins {E F : List Op5} {k : Nat} {q : Op5} (h : (out7 E F k).2 = some q) (hw : Wel q) (hk : q.k = 1 ∨ q.k = 2) : far10 E F (k + 1) = far10 E F k ∧ ((put10 E F (k + 1) : Nat) : Int) = put10 E F k + len5 q ∧ sty10 E F (k + 1) = sty10 E F k := by
  have hl := len5_units hw
  unfold far10 put10 sty10
  rw [rig_some h, baseU_append, resU_append, kepU_append, unitsO_1 hk, baseU_map, kepU_ins, List.append_nil]
  rw [unitsO_1 hk, List.length_map] at hl
  refine ⟨rfl, ?_, rfl⟩
  rw [resU_ins, hl, Int.natCast_add]
theorem sty_del {E F : List Op5} {k : Nat} {q : Op5} (h : (out7 E F k).2 = some q) (hw : Wel q) (hk : q.k = 4) : ((far10 E F (k + 1) : Nat) : Int) = far10 E F k + len5 q ∧ put10 E F (k + 1) = put10 E F k ∧ sty10 E F (k + 1) = sty10 E F k := by
  have hl := len5_units hw
  unfold far10 put10 sty10
  rw [rig_some h, baseU_append, resU_append, kepU_append, unitsO_4 hk, baseU_dels, resU_dels, kepU_dels, List.append_nil]
  rw [unitsO_4 hk, List.length_replicate] at hl
  refine ⟨?_, rfl, rfl⟩
  rw [hl, Int.natCast_add]
theorem sty_ret {E F : List Op5} {k : Nat} {q : Op5} (h : (out7 E F k).2 = some q) (hw : Wel q) (hk : q.k = 3) : ((far10 E F (k + 1) : Nat) : Int) = far10 E F k + len5 q ∧ ((put10 E F (k + 1) : Nat) : Int) = put10 E F k + len5 q ∧ sty10 E F (k + 1) = sty10 E F k ++ kepU (List.replicate (len5 q).toNat (.keep [])) (far10 E F k) (put10 E F k) := by
  have hl := len5_units hw
  unfold far10 put10 sty10
  rw [rig_some h, baseU_append, resU_append, kepU_append, unitsO_3 hk, baseU_keeps, resU_keeps]
  rw [unitsO_3 hk, List.length_replicate] at hl
  refine ⟨by rw [hl, Int.natCast_add], by rw [hl, Int.natCast_add], ?_⟩
  rw [hl, Int.toNat_natCast, kepU_any q.A [], Int.zero_add, Int.zero_add]
theorem ins_of_doc {E : List Op5} (hd : DocL E) {u : U6} (h : u ∈ units E) : ∃ c, u = .ins c := by
  rw [units_doc hd] at h
  obtain ⟨c, _, e⟩ := List.mem_map.1 h
  exact ⟨c, e.symm⟩
theorem lef_doc {E F : List Op5} : ∀ k, (∀ j, j < k → Doc10 (out7 E F j).1 (out7 E F j).2) → DocL (lef7 E F k)
  | 0, _ => fun o h => (by cases h)
  | k + 1, h => by
    rw [lef_succ]
    intro o ho
    rcases List.mem_append.1 ho with ho | ho
    · exact lef_doc k (fun j hj => h j (by omega)) o ho
    · rcases h k (by omega) with ⟨e, _⟩ | ⟨p, q, e1, e2, kp, kq⟩
      · rw [e] at ho; cases ho
      · rw [e1] at ho
        rw [List.mem_singleton.1 ho]; exact kp
/-- Where the document's cells are all gone through in step with the delta: as many as stand on its left side. -/
theorem far_left {E F : List Op5} {N T K : Nat} (hE : Rst E N T K) (hF : Rst F N T K) (hT : T ≤ 8388608) (hN : N ≤ 4194304) : ∀ k, (∀ j, j < k → Doc10 (out7 E F j).1 (out7 E F j).2) → far10 E F k = (units (lef7 E F k)).length
  | 0, _ => rfl
  | k + 1, h => by
    have ih := far_left hE hF hT hN k fun j hj => h j (by omega)
    obtain ⟨r1, r2⟩ := it_rst hE hF hT hN k
    obtain ⟨g1, g2⟩ := out_good r1 r2 hT hN
    rw [lef_succ, units_append, List.length_append, ← ih]
    rcases h k (by omega) with ⟨e, q, e2, kq⟩ | ⟨p, q, e1, e2, kp, kq⟩
    · rw [e, (sty_ins e2 (wel_of (g2 q e2).1) kq).1]; rfl
    · have hp := wel_of (g1 p e1).1
      have hq := wel_of (g2 q e2).1
      have hl := out_len10 hE hF hT hN k (show out7 E F k = (some p, some q) from Prod.ext e1 e2)
      have hu := len5_units hp
      rw [e1]
      show _ = _ + (unitsO p ++ []).length
      rw [List.append_nil]
      rcases kq with kq | kq
      · have := (sty_ret e2 hq kq).1; omega
      · have := (sty_del e2 hq kq).1; omega
theorem far_le {E F : List Op5} {N T K : Nat} (hE : Rst E N T K) (hF : Rst F N T K) (hT : T ≤ 8388608) (hN : N ≤ 4194304) (hd : DocL E) {k : Nat} (h : ∀ j, j < k → Doc10 (out7 E F j).1 (out7 E F j).2) : units (lef7 E F k) ++ units (it7 E F k).1 = units E := by
  obtain ⟨m, e, _⟩ := left_inv hE hF hT hN k
  cases m with
  | zero => rw [e]; simp
  | succ m =>
    exfalso
    have hm : U6.keep [] ∈ units (lef7 E F k) ++ units (it7 E F k).1 := by
      rw [e, List.replicate_succ]
      exact List.mem_append.2 (.inr (List.mem_cons_self ..))
    rcases List.mem_append.1 hm with hm | hm
    · obtain ⟨c, e⟩ := ins_of_doc (lef_doc k h) hm; cases e
    · obtain ⟨c, e⟩ := ins_of_doc (it_doc hd k) hm; cases e
theorem far_cells {E F : List Op5} {N T K : Nat} (hE : Rst E N T K) (hF : Rst F N T K) (hT : T ≤ 8388608) (hN : N ≤ 4194304) (hd : DocL E) {k : Nat} (h : ∀ j, j < k → Doc10 (out7 E F j).1 (out7 E F j).2) : far10 E F k ≤ (cellsL E).length := by
  rw [far_left hE hF hT hN k h]
  have := congrArg List.length (far_le hE hF hT hN hd h)
  rw [List.length_append, units_doc hd, List.length_map] at this
  omega
/-- At the end: the delta's units, plain retains behind them up to the document's end. -/
theorem rig_end {E F : List Op5} {N T K : Nat} (hE : Rst E N T K) (hF : Rst F N T K) (hT : T ≤ 8388608) (hN : N ≤ 4194304) (hd : DocL E) {k : Nat} (h : ∀ j, j < k → Doc10 (out7 E F j).1 (out7 E F j).2) (h0 : (it7 E F k).1 = [] ∧ (it7 E F k).2 = []) :
    units (rig7 E F k) = units F ++ List.replicate ((cellsL E).length - baseU (units F)) (.keep []) := by
  obtain ⟨m, e, _⟩ := right_inv hE hF hT hN k
  have hl := far_le hE hF hT hN hd h
  have hf := far_left hE hF hT hN k h
  rw [h0.1] at hl
  rw [h0.2] at e
  have e' : units (rig7 E F k) = units F ++ List.replicate m (.keep []) := by rw [← e]; show _ = _ ++ []; rw [List.append_nil]
  have hl' : units (lef7 E F k) = units E := by rw [← hl]; show _ = _ ++ []; rw [List.append_nil]
  have hb : baseU (units (rig7 E F k)) = (units (lef7 E F k)).length := hf
  rw [hl', units_doc hd, List.length_map, e', baseU_append, baseU_keeps] at hb
  rw [e']
  congr 2
  omega
theorem sty_end {E F : List Op5} {N T K : Nat} (hE : Rst E N T K) (hF : Rst F N T K) (hT : T ≤ 8388608) (hN : N ≤ 4194304) (hd : DocL E) {k : Nat} (h : ∀ j, j < k → Doc10 (out7 E F j).1 (out7 E F j).2) (h0 : (it7 E F k).1 = [] ∧ (it7 E F k).2 = []) :
    sty10 E F k = kepI ((doneL (cellsL E) (units F)).map Prod.snd) 0 := by
  rw [done_kep]
  unfold sty10
  rw [rig_end hE hF hT hN hd h h0]
end Go.Proofs.YtplnojapnaaakaaGreatDoor

/- Loops over a function (Wl's law), twice anew: the assignment may lay blocks of its own and the body is told that its loop's record lies there; and the same within a round of another such loop. -/
namespace Go.Proofs.YtplnojapnaaakaaGreatDoor
open Go Go.RowKit
set_option linter.unusedVariables false
/-- What has turned is neither cells nor a text gone over, and lies from B on and below C. -/
structure Bk9 (B C : Nat) (A A' : World) : Prop where
  os : A'.os = A.os
  tape : A'.tape = A.tape
  output : A'.output = A.output
  size : A.heap.size ≤ A'.heap.size
  kept : ∀ (k : Nat) (o : Obj), A.heap[k]? = some o → (k < B ∨ C ≤ k ∨ o.isCells = true ∨ ∃ t p, o = .stringIter t p) → A'.heap[k]? = some o
theorem Bk9.seven {B C : Nat} {A A' : World} (h : Bk9 B C A A') : Bk7 B A A' := ⟨h.os, h.tape, h.output, h.size, fun k o hk ho => h.kept k o hk (ho.imp id fun q => .inr (.inl q))⟩
theorem Bk9.tr {T : TypeId → Prop} {B C : Nat} {A A' : World} (h : Bk9 B C A A') : Tr7 T B A A' := h.seven.tr
theorem Bk9.cells {B C : Nat} {A A' : World} (h : Bk9 B C A A') {k : Nat} {cs : Array Value} {t : TypeId} {fz : Nat × Nat} (hk : A.heap[k]? = some (.cells cs t fz)) : A'.heap[k]? = some (.cells cs t fz) := h.kept k _ hk (.inr (.inr (.inl rfl)))
theorem Bk9.trans {B C : Nat} {X Y Z : World} (h : Bk9 B C X Y) (k : Bk9 B C Y Z) : Bk9 B C X Z :=
  ⟨k.os.trans h.os, k.tape.trans h.tape, k.output.trans h.output, Nat.le_trans h.size k.size, fun i o hi ho => k.kept i o (h.kept i o hi ho) ho⟩
theorem Bk9.put {B C l : Nat} {W : World} {r : Loop} (o' : Obj) (hB : B ≤ l) (hC : l < C) (hl : W.heap[l]? = some (.loop r)) : Bk9 B C W (W.putObj l o') :=
  ⟨rfl, rfl, rfl, by simp, fun k x hk hx => by
    have : k ≠ l := fun e => by
      subst e; rw [hl] at hk; cases hk
      rcases hx with hx | hx | hx | ⟨_, _, hx⟩
      · omega
      · omega
      · cases hx
      · cases hx
    exact (World.putObj_heap_other this).trans hk⟩
theorem Bk9.alloc (B C : Nat) (W : World) (o : Obj) : Bk9 B C W (W.alloc o) :=
  ⟨rfl, rfl, rfl, by simp, fun k x hk _ => (Below.heap_alloc _ _ _ (Array.getElem?_eq_some_iff.1 hk).1).trans hk⟩
theorem Bk9.of_below {B C : Nat} {A A' : World} (h : Below A.heap.size A A') : Bk9 B C A A' :=
  ⟨h.os, h.tape, h.output, h.size, fun k o hk _ => (h.block k (Array.getElem?_eq_some_iff.1 hk).1).trans hk⟩
theorem Tr7.mono {T T' : TypeId → Prop} {B B' : Nat} {A A' : World} (h : Tr7 T B A A') (hT : ∀ t, T t → T' t) (hB : B' ≤ B) : Tr7 T' B' A A' :=
  ⟨h.os, h.tape, h.output, h.size, fun k o hk ho => h.kept k o hk (ho.imp (fun q => by omega) (fun ⟨cs, t, fz, e, hn⟩ => ⟨cs, t, fz, e, fun ht => hn (hT t ht)⟩))⟩
theorem Tr7.low {T : TypeId → Prop} {B B' : Nat} {A A' : World} (h : Tr7 T B A A') (hB : B' ≤ B) : Tr7 T B' A A' :=
  ⟨h.os, h.tape, h.output, h.size, fun k o hk ho => h.kept k o hk (ho.imp (fun q => by omega) id)⟩
variable {F : Fence} {n : Nat} {P : Program}
end Go.Proofs.YtplnojapnaaakaaGreatDoor

/- Loops over a function that writes cells of its own, whose blocks the caller is told of: they lie from the call's first block on and below a mark. -/
namespace Go.Proofs.YtplnojapnaaakaaGreatDoor
open Go Go.RowKit
set_option linter.unusedVariables false
/-- What has turned is no cells, or cells of certain types, from B on and below C. -/
structure Tr8 (T : TypeId → Prop) (B C : Nat) (A A' : World) : Prop where
  os : A'.os = A.os
  tape : A'.tape = A.tape
  output : A'.output = A.output
  size : A.heap.size ≤ A'.heap.size
  kept : ∀ (k : Nat) (o : Obj), A.heap[k]? = some o → (k < B ∨ C ≤ k ∨ ∃ cs t fz, o = .cells cs t fz ∧ ¬ T t) → A'.heap[k]? = some o
/-- What has turned is cells of certain types, from B on and below C. -/
structure It8 (T : TypeId → Prop) (B C : Nat) (A A' : World) : Prop where
  os : A'.os = A.os
  tape : A'.tape = A.tape
  output : A'.output = A.output
  size : A.heap.size ≤ A'.heap.size
  kept : ∀ (k : Nat) (o : Obj), A.heap[k]? = some o → (k < B ∨ C ≤ k ∨ ¬ ∃ cs t fz, o = .cells cs t fz ∧ T t) → A'.heap[k]? = some o
theorem Bk9.tr8 {T : TypeId → Prop} {B C C' : Nat} {A A' : World} (h : Bk9 B C A A') (hC : C ≤ C') : Tr8 T B C' A A' :=
  ⟨h.os, h.tape, h.output, h.size, fun k o hk ho => h.kept k o hk (ho.elim .inl fun q => .inr (q.elim (fun q => .inl (by omega)) fun ⟨cs, t, fz, e, _⟩ => .inr (.inl (by rw [e]; rfl))))⟩
theorem It8.tr {T : TypeId → Prop} {B B' C : Nat} {A A' : World} (h : It8 T B C A A') (hB : B' ≤ B) : Tr8 T B' C A A' :=
  ⟨h.os, h.tape, h.output, h.size, fun k o hk ho => h.kept k o hk (ho.elim (fun q => .inl (by omega)) fun q => .inr (q.elim .inl fun ⟨cs, t, fz, e, hn⟩ => .inr (fun ⟨cs', t', fz', e', ht⟩ => by rw [e] at e'; cases e'; exact hn ht)))⟩
theorem It8.of_below {T : TypeId → Prop} {B C : Nat} {A A' : World} (h : Below A.heap.size A A') : It8 T B C A A' :=
  ⟨h.os, h.tape, h.output, h.size, fun k o hk _ => (h.block k (Array.getElem?_eq_some_iff.1 hk).1).trans hk⟩
theorem Tr8.of_below {T : TypeId → Prop} {B C : Nat} {A A' : World} (h : Below A.heap.size A A') : Tr8 T B C A A' :=
  ⟨h.os, h.tape, h.output, h.size, fun k o hk _ => (h.block k (Array.getElem?_eq_some_iff.1 hk).1).trans hk⟩
theorem It8.seven {T : TypeId → Prop} {B C : Nat} {A A' : World} (h : It8 T B C A A') : It7 T B A A' :=
  ⟨h.os, h.tape, h.output, h.size, fun k o hk ho => h.kept k o hk (ho.elim .inl fun q => .inr (.inr q))⟩
theorem Tr8.seven {T : TypeId → Prop} {B C : Nat} {A A' : World} (h : Tr8 T B C A A') : Tr7 T B A A' :=
  ⟨h.os, h.tape, h.output, h.size, fun k o hk ho => h.kept k o hk (ho.elim .inl fun q => .inr (.inr q))⟩
theorem It8.trans {T : TypeId → Prop} {B C : Nat} {X Y Z : World} (h : It8 T B C X Y) (k : It8 T B C Y Z) : It8 T B C X Z :=
  ⟨k.os.trans h.os, k.tape.trans h.tape, k.output.trans h.output, Nat.le_trans h.size k.size, fun i o hi ho => k.kept i o (h.kept i o hi ho) ho⟩
/-- The contract of a function to be ranged over, as SeqG; C is the mark below which its own cells lie. -/
def SeqS {α : Type} (F : Fence) (n : Nat) (P : Program) (g : Nat) (lb : Array Value) (encs : α → Array Value) (T : TypeId → Prop)
    (G : List α → α → World → Prop) (Kp : Nat → List α → α → World → World → Prop) (S : List α → Prop) (w0 : World) : Prop :=
  ∀ (l : Nat) (J Jx : Nat → List α → World → Prop) (W : World), Below w0.heap.size w0 W →
    (∀ C s A A', J C s A → It8 T W.heap.size C A A' → J C s A') → (∀ C s A A', Jx C s A → It8 T W.heap.size C A A' → Jx C s A') →
    (∀ C pre x W1, W.heap.size ≤ C → C ≤ W1.heap.size → J C pre W1 → G pre x W1 → YieldAt F (n - 1) P l (encs x) W1 fun e W' =>
      (e = .returned (.bool true) ∧ J C (pre ++ [x]) W' ∧ Kp C pre x W1 W') ∨ (e = .returned (.bool false) ∧ Jx C (pre ++ [x]) W' ∧ C ≤ W'.heap.size)) →
    (∀ W1, Below W.heap.size W W1 → J W1.heap.size [] W1) →
    CallsIn F n P g (#[.func (.yield l) #[] #[]] ++ lb) W fun e W' => (∃ v, e = .returned v) ∧ ∃ C, W.heap.size ≤ C ∧ C ≤ W'.heap.size ∧ ((∃ xs, S xs ∧ J C xs W') ∨ (∃ pre, Jx C pre W'))
variable {F : Fence} {n : Nat} {P : Program}
theorem wpIn_rangeFunc_GS {α : Type} {g : Operand} {ps : Array Tmp} {assign body : Code} {Q : Exit → Act → World → Prop} {a : Act} {w : World}
    (hro : F.round = none) (h1 : 1 ≤ n) {gf : Nat} {lb : Array Value} (hg : a.eval g = .func (.func gf) #[] lb) (hFg : F.fn gf) (eg : ∀ args w, (callFunc gf args).run P w = .ok (.enter gf args) w)
    {encs : α → Array Value} {T : TypeId → Prop} {G : List α → α → World → Prop} {Kp : Nat → List α → α → World → World → Prop} {S : List α → Prop} {w0 : World}
    (hseq : SeqS F (n - 1) P gf lb encs T G Kp S w0) (hb0 : Below w0.heap.size w0 w) (hps : ∀ x, (encs x).size = ps.size)
    (hG : ∀ pre x A A', G pre x A → Bk9 w.heap.size (w.heap.size + 2) A A' → G pre x A')
    (hK : ∀ C pre x A A' B B', w.heap.size + 2 ≤ C → Bk9 w.heap.size (w.heap.size + 2) A A' → Kp C pre x A' B → Bk9 w.heap.size (w.heap.size + 2) B B' → Kp C pre x A B')
    (I : Nat → List α → World → Prop) (Ix : Nat → Code → List α → World → Prop)
    (hI : ∀ C s A A', w.heap.size + 2 ≤ C → I C s A → Tr8 T w.heap.size C A A' → I C s A') (hIx : ∀ C c s A A', w.heap.size + 2 ≤ C → Ix C c s A → Tr8 T w.heap.size C A A' → Ix C c s A') (h0 : ∀ W, Below w.heap.size w W → I W.heap.size [] W)
    (Ax : List α → α → Act → World → Prop) (hAx : ∀ pre x a' A A', Ax pre x a' A → Bk9 w.heap.size (w.heap.size + 2) A A' → Ax pre x a' A')
    (hassign : ∀ (l C : Nat) (pre : List α) (x : α) (W : World) (K : Act → World → Prop), I C pre W → G pre x W → (∀ a' W', Below W.heap.size W W' → Ax pre x a' W' → K a' W') →
      assign.wpIn (F.inRound l) (n - 1 - 1) P (Exit.then K (fun _ _ _ => False)) { tmps := (ps.zip (encs x)).foldl (fun t (p, v) => t.setIfInBounds p v) a.tmps, defers := [] } W)
    (hbody : ∀ (l C : Nat) (pre : List α) (x : α) (a' : Act) (W : World), w.heap.size ≤ l → l < C → w.heap.size + 2 ≤ C → C ≤ W.heap.size → (∃ r, W.heap[l]? = some (.loop r)) → I C pre W → G pre x W → Ax pre x a' W → body.wpIn (F.inRound l) (n - 1 - 1) P (gPost w.heap.size (Kp C) (I C) (Ix C) pre x W) a' W)
    (hdone : ∀ (D C : Nat) (xs : List α) (W : World), w.heap.size ≤ D → D < C → C ≤ W.heap.size → S xs → I C xs W → W.heap[D]? = some (.deferred (some [])) → Q .normal { a with defers := { target := .collected D, args := #[] } :: a.defers } W)
    (hstop : ∀ (D C : Nat) (c : Code) (pre : List α) (W : World), w.heap.size ≤ D → D < C → C ≤ W.heap.size → Ix C c pre W → W.heap[D]? = some (.deferred (some [])) → c.wpIn F n P Q { a with defers := { target := .collected D, args := #[] } :: a.defers } W) :
    (Code.rangeFunc g ps assign body).wpIn F n P Q a w := by
  refine wpIn_rangeFunc fun fn hfn => ?_
  rw [hro]
  obtain ⟨rc, hrc⟩ : ∃ rc : LoopState → Option Code → Loop, ∀ s p, rc s p = { state := s, pending := p, fn, tmps := a.tmps, params := ps, assign, body, defers := w.heap.size } := ⟨_, fun _ _ => rfl⟩
  -- the record and the block for deferred calls
  obtain ⟨L, hL⟩ : ∃ L : Option Obj → World → Prop, ∀ o W, L o W = (W.heap[w.heap.size + 1]? = o ∧ W.heap[w.heap.size]? = some (.deferred (some []))) := ⟨_, fun _ _ => rfl⟩
  obtain ⟨W1, hW1⟩ : ∃ W1, (w.alloc (.deferred (some []))).alloc (.loop (rc .ready none)) = W1 := ⟨_, rfl⟩
  have bk1 : Bk9 w.heap.size (w.heap.size + 2) w W1 := by rw [← hW1]; exact (Bk9.alloc _ _ _ _).trans (Bk9.alloc _ _ _ _)
  have hL1 : L (some (.loop (rc .ready none))) W1 := by
    rw [hL, ← hW1]
    have e := World.alloc_heap_new (w.alloc (.deferred (some []))) (.loop (rc .ready none))
    rw [World.size_alloc] at e
    exact ⟨e, (Below.heap_alloc _ _ _ (by simp)).trans (World.alloc_heap_new w _)⟩
  have put : ∀ (o : Obj) (r : Loop) (W : World), L (some (.loop r)) W → L (some o) (W.putObj (w.heap.size + 1) o) ∧ Bk9 w.heap.size (w.heap.size + 2) W (W.putObj (w.heap.size + 1) o) := fun o r W h => by
    rw [hL] at h ⊢
    exact ⟨⟨World.putObj_heap_same (Array.getElem?_eq_some_iff.1 h.1).1, (World.putObj_heap_other (by omega)).trans h.2⟩, Bk9.put _ (by omega) (by omega) h.1⟩
  have hlt1 : w.heap.size + 1 < W1.heap.size := by
    have := hL1
    rw [hL] at this
    exact (Array.getElem?_eq_some_iff.1 this.1).1
  have trL : ∀ (C : Nat) (r : Loop) (A A' : World), L (some (.loop r)) A → It8 T W1.heap.size C A A' → L (some (.loop r)) A' := fun C r A A' h k => by
    rw [hL] at h ⊢
    exact ⟨k.kept _ _ h.1 (.inl hlt1), k.kept _ _ h.2 (.inl (by omega))⟩
  have hz : w.heap.size ≤ W1.heap.size := bk1.size
  have hzz : W1.heap.size = w.heap.size + 2 := by rw [← hW1]; simp [World.size_alloc]
  refine ⟨w.heap.size + 1, [{ target := .collected w.heap.size, args := #[] }], W1, { target := .fn (.func gf) lb, args := #[.func (.yield (w.heap.size + 1)) #[] #[]] }, W1, gf,
    #[.func (.yield (w.heap.size + 1)) #[] #[]] ++ lb, W1, ?_, ?_, ?_, ?_, fun _ => h1, ?_⟩
  · rw [← hW1, hrc]; exact run_enterLoop_outer _ _ _ _ _
  · simp only [resolve, hg]
    simp [go_sem]
  · intro f' hf'; simp [Target.leads] at hf'; subst hf'; exact hFg
  · simp [invoke, go_sem, eg]
  · have bw1 : Below w.heap.size w W1 := Tr7.below (bk1.tr (T := T)) (Nat.le_refl _)
    refine (hseq (w.heap.size + 1) (fun C pre W => w.heap.size + 2 ≤ C ∧ I C pre W ∧ L (some (.loop (rc .ready none))) W) (fun C pre W => w.heap.size + 2 ≤ C ∧ ∃ c, Ix C c pre W ∧ L (some (.loop (rc .done (some c)))) W) W1
      (hb0.trans (bw1.mono hb0.size))
      (fun C s A A' ⟨hc, h⟩ k => ⟨hc, hI C s A A' hc h.1 (k.tr hz), trL _ _ _ _ h.2 k⟩) (fun C s A A' ⟨hc, c, h, h'⟩ k => ⟨hc, c, hIx C c s A A' hc h (k.tr hz), trL _ _ _ _ h' k⟩) ?_
      (fun W2 b2 => ⟨by have := b2.size; omega, h0 _ (bw1.trans (b2.mono hz)), by
        have := hL1
        rw [hL] at this ⊢
        exact ⟨(b2.block _ (Array.getElem?_eq_some_iff.1 this.1).1).trans this.1, (b2.block _ (Array.getElem?_eq_some_iff.1 this.2).1).trans this.2⟩⟩)).mono ?_
    · rintro C pre x W hCl hCs ⟨hc2, hi, hl⟩ hg
      have hlp := (show L (some (.loop (rc .ready none))) W from hl)
      rw [hL] at hlp
      have hy := run_yield (P := P) (args := encs x) hlp.1 (by rw [hrc]; exact hps x)
      rw [hrc] at hy
      refine ⟨fn, _, assign, body, hy, roundIn_of_wpIn hfn (hassign _ C pre x W _ hi hg fun a' Wa hba hax => ?_)⟩
      have bka : Bk9 w.heap.size (w.heap.size + 2) W Wa := Bk9.of_below hba
      have la : L (some (.loop (rc .ready none))) Wa := by
        rw [hL]
        exact ⟨(hba.block _ (Array.getElem?_eq_some_iff.1 hlp.1).1).trans hlp.1, (hba.block _ (Array.getElem?_eq_some_iff.1 hlp.2).1).trans hlp.2⟩
      obtain ⟨q1, q2⟩ := put (.loop (rc .busy none)) _ Wa la
      have hla := la
      rw [hL] at hla
      have q02 := bka.trans q2
      refine ⟨_, run_beginRound hla.1 (by rw [hrc]), ?_⟩
      have eb : ({ rc .ready none with state := LoopState.busy } : Loop) = rc .busy none := by rw [hrc, hrc]
      rw [eb]
      have hq := q1
      rw [hL] at hq
      refine wpIn_mono (hbody _ C pre x a' _ (by omega) (by omega) hc2 (Nat.le_trans hCs q02.size) ⟨_, hq.1⟩ (hI _ _ _ _ hc2 hi (q02.tr8 hc2)) (hG _ _ _ _ hg q02) (hAx _ _ _ _ _ hax q2)) ?_
      clear hq hla hy
      have fin : ∀ (jump : Option Code) (W3 : World), KeepsFrom w.heap.size (Wa.putObj (w.heap.size + 1) (.loop (rc .busy none))) W3 →
          (Instr.endRound (w.heap.size + 1) jump).run P W3 = .ok (.bool jump.isNone) (W3.putObj (w.heap.size + 1) (.loop (rc (if jump.isNone then .ready else .done) jump))) ∧
          L (some (.loop (rc (if jump.isNone then .ready else .done) jump))) (W3.putObj (w.heap.size + 1) (.loop (rc (if jump.isNone then .ready else .done) jump))) ∧
          Bk9 w.heap.size (w.heap.size + 2) W3 (W3.putObj (w.heap.size + 1) (.loop (rc (if jump.isNone then .ready else .done) jump))) := fun jump W3 k3 => by
        have l3 : L (some (.loop (rc .busy none))) W3 := by
          rw [hL] at q1 ⊢
          exact ⟨k3.same _ _ (by omega) q1.1 rfl, k3.same _ _ (Nat.le_refl _) q1.2 rfl⟩
        obtain ⟨p1, p2⟩ := put (.loop (rc (if jump.isNone then .ready else .done) jump)) _ W3 l3
        rw [hL] at l3
        have e := run_endRound (P := P) jump l3.1
        rw [hrc] at e
        exact ⟨by rw [hrc]; exact e, p1, p2⟩
      rintro e a3 W3 hp
      cases e with
      | normal =>
        obtain ⟨k3, kp, hi3⟩ := hp
        obtain ⟨r1, r2, r3⟩ := fin none W3 k3
        exact ⟨_, _, r1, .inl ⟨rfl, ⟨hc2, hI _ _ _ _ hc2 hi3 (r3.tr8 hc2), r2⟩, hK _ _ _ _ _ _ _ hc2 q02 kp r3⟩⟩
      | ret =>
        obtain ⟨k3, hi3⟩ := hp
        obtain ⟨r1, r2, r3⟩ := fin (some .ret) W3 k3
        exact ⟨_, _, r1, .inr ⟨rfl, ⟨hc2, _, hIx _ _ _ _ _ hc2 hi3 (r3.tr8 hc2), r2⟩, Nat.le_trans hCs (Nat.le_trans q02.size (Nat.le_trans k3.size r3.size))⟩⟩
      | exit id =>
        obtain ⟨k3, hi3⟩ := hp
        obtain ⟨r1, r2, r3⟩ := fin (some (.exit id)) W3 k3
        exact ⟨_, _, r1, .inr ⟨rfl, ⟨hc2, _, hIx _ _ _ _ _ hc2 hi3 (r3.tr8 hc2), r2⟩, Nat.le_trans hCs (Nat.le_trans q02.size (Nat.le_trans k3.size r3.size))⟩⟩
      | goto t =>
        obtain ⟨k3, hi3⟩ := hp
        obtain ⟨r1, r2, r3⟩ := fin (some (.goto t)) W3 k3
        exact ⟨_, _, r1, .inr ⟨rfl, ⟨hc2, _, hIx _ _ _ _ _ hc2 hi3 (r3.tr8 hc2), r2⟩, Nat.le_trans hCs (Nat.le_trans q02.size (Nat.le_trans k3.size r3.size))⟩⟩
      | panic ch => exact hp.elim
      | outgrown => exact hp.elim
    · rintro e W2 ⟨⟨v, rfl⟩, C, hCl, hCs, (⟨xs, hS, hc2, hi, hl⟩ | ⟨pre, hc2, c, hi, hl⟩)⟩
      · obtain ⟨p1, p2⟩ := put (.loop (rc .exhausted none)) _ W2 hl
        rw [hL] at hl p1
        have r := run_endLoop (P := P) hl.1 (by rw [hrc]; simp)
        rw [hrc] at r
        rw [hrc] at p1 p2
        exact ⟨none, _, r, hdone _ C xs _ (Nat.le_refl _) (by omega) (Nat.le_trans hCs p2.size) hS (hI _ _ _ _ hc2 hi (p2.tr8 hc2)) p1.2⟩
      · obtain ⟨p1, p2⟩ := put (.loop (rc .exhausted (some c))) _ W2 hl
        rw [hL] at hl p1
        have r := run_endLoop (P := P) hl.1 (by rw [hrc]; simp)
        rw [hrc] at r
        rw [hrc] at p1 p2
        exact ⟨some c, _, r, hstop _ C c pre _ (Nat.le_refl _) (by omega) (Nat.le_trans hCs p2.size) (hIx _ _ _ _ _ hc2 hi (p2.tr8 hc2)) p1.2⟩

end Go.Proofs.YtplnojapnaaakaaGreatDoor

/- What Steps' function hands over, the blocks of its two Walkers told. -/
namespace Go.Proofs.YtplnojapnaaakaaGreatDoor
open Go Go.RowKit Go.Lib Go.Shelf
set_option linter.unusedVariables false
attribute [local go_sem] Oper.semAt_some
/-- Two Walkers whose cells and rows lie below C. -/
def TwoC (w : World) (B C qa qb : Nat) (R S : List Op5) : Prop := ∃ ga gb, Two w B qa ga qb gb R S ∧ (R ≠ [] → ga < C) ∧ (S ≠ [] → gb < C) ∧ qa < C ∧ qb < C
theorem TwoC.below {w w' : World} {B C qa qb : Nat} {R S : List Op5} (h : TwoC w B C qa qb R S) (b : Below w.heap.size w w') : TwoC w' B C qa qb R S := by
  obtain ⟨ga, gb, h1, h2⟩ := h
  exact ⟨ga, gb, h1.below b, h2⟩
theorem TwoC.wlen {w : World} {B C qa qb : Nat} {R S : List Op5} (h : TwoC w B C qa qb R S) : Go.Proofs.YtplnojapnaaakaaGreatDoor.wlen w qa + Go.Proofs.YtplnojapnaaakaaGreatDoor.wlen w qb = R.length + S.length := by
  obtain ⟨ga, gb, h1, h2⟩ := h
  rw [wlen_of h1.a, wlen_of h1.b]
theorem two_ofC {W1 W2 : World} {B M qa ga qb gb : Nat} {R S : List Op5} (ka : WkV W1 M qa ga R) (la : R ≠ [] → ga < W1.heap.size) (hM : B ≤ M) (kb : WkV W2 W1.heap.size qb gb S) (lb : S ≠ [] → gb < W2.heap.size) (b : Below W1.heap.size W1 W2) : TwoC W2 B W2.heap.size qa qb R S := by
  have k2 := (ka.below b).low hM
  have hq := ka.lt
  have l1 := kb.lq
  have l2 := kb.lg
  have l3 := kb.lt
  have l4 := b.size
  have hB : B ≤ W1.heap.size := by have := ka.lq; omega
  by_cases h : R = []
  · subst h
    exact ⟨qa + qb + gb + 1, gb, ⟨k2.nilG (by omega) (by have := k2.lq; omega), kb.low hB, ⟨by omega, by omega⟩, ⟨by omega, by omega⟩⟩, fun h => absurd rfl h, lb, by omega, l3⟩
  · have := la h
    exact ⟨ga, gb, ⟨k2, kb.low hB, ⟨by omega, by omega⟩, ⟨by omega, by omega⟩⟩, fun _ => by omega, lb, by omega, l3⟩
/-- What a round keeps: the Walkers' cells and rows, all lists. -/
structure KS8 (B C : Nat) (A A' : World) : Prop where
  size : A.heap.size ≤ A'.heap.size
  kept : ∀ (k : Nat) (cs : Array Value) (t : TypeId) (fz : Nat × Nat), A.heap[k]? = some (.cells cs t fz) → ((TW t ∧ B ≤ k ∧ k < C) ∨ t = 154) → A'.heap[k]? = some (.cells cs t fz)
theorem KS8.bk {B C D D' : Nat} {A A' Z Z' : World} (k1 : Bk9 D D' A A') (h : KS8 B C A' Z) (k2 : Bk9 D D' Z Z') : KS8 B C A Z' :=
  ⟨Nat.le_trans k1.size (Nat.le_trans h.size k2.size), fun k cs t fz hk ht => k2.cells (h.kept k cs t fz (k1.cells hk) ht)⟩
theorem KS8.two {A A' : World} {B0 B C qa qb : Nat} {R S : List Op5} (k : KS8 B0 C A A') (h : TwoC A B C qa qb R S) (hB : B0 ≤ B) : TwoC A' B C qa qb R S := by
  obtain ⟨ga, gb, h, ha, hb, hqa, hqb⟩ := h
  have hk : KeepA A A' := fun j cur hj => by rw [k.kept j _ _ _ hj (.inr rfl), hj]
  have one : ∀ {q g : Nat} {R : List Op5}, q < C → (R ≠ [] → g < C) → WkV A B q g R → WkV A' B q g R := fun {q g R} hq hg h => by
    obtain ⟨h1, h2, h3, p, cap, h4, h5, h6⟩ := h
    refine ⟨h1, h2, h3, p, cap, k.kept _ _ _ _ h4 (.inl ⟨.inl rfl, by omega, hq⟩), h5, fun h0 => ?_⟩
    obtain ⟨off, cs, e, hgo, hr⟩ := h6 h0
    refine ⟨off, cs, e, k.kept _ _ _ _ hgo (.inl ⟨.inr rfl, by omega, hg h0⟩), fun j x hx => ?_⟩
    obtain ⟨s, a1, a2⟩ := hr j x hx
    exact ⟨s, a1, keepA_own a2 hk⟩
  exact ⟨ga, gb, ⟨one hqa ha h.a, one hqb hb h.b, h.n1, h.n2⟩, ha, hb, hqa, hqb⟩
theorem st_nilA (S : List Op5) : (st7 [] S).2.1 = [] := by
  by_cases h : kind7 S = 1 ∨ kind7 S = 2
  · rw [st_ins h]
  · by_cases h2 : kind7 ([] : List Op5) = 4
    · rw [st_del h h2]; rfl
    · rw [st_both h h2]; rfl
theorem st_nilB (R : List Op5) : (st7 R []).2.2 = [] := by
  have h : ¬ (kind7 ([] : List Op5) = 1 ∨ kind7 ([] : List Op5) = 2) := by decide
  by_cases h2 : kind7 R = 4
  · rw [st_del h h2]
  · rw [st_both h h2]; rfl
def Step8 (w w' : World) (B C qa qb : Nat) (R S : List Op5) (e : Ending) : Prop :=
  ∃ p q, e = .returned (.tuple #[p, q]) ∧ PcV w' B p (st7 R S).1.1 ∧ PcV w' B q (st7 R S).1.2 ∧ TwoC w' B C qa qb (st7 R S).2.1 (st7 R S).2.2 ∧ It8 TW B C w w'
theorem step8_any {B C qa qb : Nat} {R S : List Op5} {N T K : Nat} (w : World) (h : TwoC w B C qa qb R S) (hR : Rst R N T K) (hS : Rst S N T K) (hT : T ≤ 8388608) (hK : K ≤ 2097152) (hN : N ≤ 4194304) :
    Calls Tryz.prog 68 #[.pointer (some ⟨qa, 0, none⟩), .pointer (some ⟨qb, 0, none⟩)] w fun e w' => Step8 w w' B C qa qb R S e := by
  obtain ⟨ga, gb, h, ha, hb, hqa, hqb⟩ := h
  have la := h.a.lt
  have lb := h.b.lt
  have lq := h.a.lq
  have l1 := h.n1
  have l2 := h.n2
  have fin : ∀ ga gb : Nat, Two w B qa ga qb gb R S → (ga < C ∨ (R = [] ∧ w.heap.size ≤ ga)) → (gb < C ∨ (S = [] ∧ w.heap.size ≤ gb)) → Calls Tryz.prog 68 #[.pointer (some ⟨qa, 0, none⟩), .pointer (some ⟨qb, 0, none⟩)] w fun e w' => Step8 w w' B C qa qb R S e := fun ga gb h ha hb => by
    have h1 := h.a.lq
    have h2 := h.a.lg
    have h3 := h.b.lq
    have h4 := h.b.lg
    refine (step4_any w h hR hS hT hK hN).mono ?_
    rintro e w' ⟨p, q, rfl, x1, x2, x3, x4⟩
    refine ⟨p, q, rfl, x1, x2, ⟨ga, gb, x3, fun h0 => ?_, fun h0 => ?_, hqa, hqb⟩, ⟨x4.os, x4.tape, x4.output, x4.size, fun k o hk ho => x4.kept k o hk ?_⟩⟩
    · rcases ha with ha | ⟨ha, _⟩
      · exact ha
      · subst ha; exact absurd (st_nilA S) h0
    · rcases hb with hb | ⟨hb, _⟩
      · exact hb
      · subst hb; exact absurd (st_nilB R) h0
    · have hlt := (Array.getElem?_eq_some_iff.1 hk).1
      rcases ho with ho | ho | ho
      · exact .inr (by omega)
      · exact .inr (by omega)
      · exact .inl ho
  by_cases h0 : R = []
  · by_cases h9 : S = []
    · subst h0; subst h9
      exact fin (w.heap.size + qa + qb) (w.heap.size + qa + qb + 1) ⟨h.a.nilG (by omega) (by omega), h.b.nilG (by omega) (by omega), ⟨l1.1, by omega⟩, ⟨by omega, by omega⟩⟩ (.inr ⟨rfl, by omega⟩) (.inr ⟨rfl, by omega⟩)
    · subst h0
      exact fin (w.heap.size + qa + qb + gb + 1) gb ⟨h.a.nilG (by omega) (by omega), h.b, l1, ⟨by omega, by omega⟩⟩ (.inr ⟨rfl, by omega⟩) (.inl (hb h9))
  · by_cases h9 : S = []
    · subst h9
      exact fin ga (w.heap.size + qa + qb + ga + 1) ⟨h.a, h.b.nilG (by omega) (by omega), ⟨l1.1, by omega⟩, ⟨l2.1, by omega⟩⟩ (.inl (ha h0)) (.inr ⟨rfl, by omega⟩)
    · exact fin ga gb h (.inl (ha h0)) (.inl (hb h9))
set_option maxHeartbeats 4000000 in
set_option maxRecDepth 100000 in
theorem steps8_seq (E F : List Op5) (w0 : World) (x y B1 B2 C1 C2 : Nat) {N T K : Nat} (hx : BoxD w0 x B1 B2 E) (hy : BoxD w0 y C1 C2 F) (hE : Rst E N T K) (hF : Rst F N T K) (hT : T ≤ 8388608) (hK : K ≤ 2097152) (hN : N ≤ 4194304) (n : Nat) (hn : 2 ≤ n) :
    SeqS Fence.wide n Tryz.prog 67 #[.pointer (some ⟨x, 0, none⟩), .pointer (some ⟨y, 0, none⟩)] encS TW (GS E F w0.heap.size) (fun C _ _ => KS8 w0.heap.size C) (fun xs => Run7 E F xs.length ∧ (it7 E F xs.length).1 = [] ∧ (it7 E F xs.length).2 = []) w0 := fun l J Jx W hW hJ hJx hY h0 => by
  obtain ⟨v, hx, hd⟩ := hx
  obtain ⟨v', hy, hd'⟩ := hy
  have c0 : W.cell? ⟨x, 0, none⟩ = some v := (hW.cell (lt_of_cell hx)).trans hx
  have c1 : W.cell? ⟨y, 0, none⟩ = some v' := (hW.cell (lt_of_cell hy)).trans hy
  have hA1 : ∀ o ∈ E, o.A.length ≤ 2097152 := fun o ho => Nat.le_trans (hE.attr o ho) hK
  have hA2 : ∀ o ∈ F, o.A.length ≤ 2097152 := fun o ho => Nat.le_trans (hF.attr o ho) hK
  have cA : ∀ W', Below W.heap.size W W' → Calls Tryz.prog 22 #[v] W' fun r w' => NewR W' w' E r ∧ Below W.heap.size W w' := fun W' h => (newW_any v E W' ((hd.below hW).below h) hE.good hA1 (Nat.le_trans hE.len hN)).mono fun r w' hh => ⟨hh, by obtain ⟨_, _, _, _, _, b⟩ := hh; exact h.trans (b.mono h.size)⟩
  have cB : ∀ W', Below W.heap.size W W' → Calls Tryz.prog 22 #[v'] W' fun r w' => NewR W' w' F r ∧ Below W.heap.size W w' := fun W' h => (newW_any v' F W' ((hd'.below hW).below h) hF.good hA2 (Nat.le_trans hF.len hN)).mono fun r w' hh => ⟨hh, by obtain ⟨_, _, _, _, _, b⟩ := hh; exact h.trans (b.mono h.size)⟩
  have hz0 : w0.heap.size ≤ W.heap.size := hW.size
  have HJ : Hid (∀ C p W1 W2, J C p W1 → It8 TW W.heap.size C W1 W2 → J C p W2) := hJ
  have HY : Hid (∀ C pre x W1, W.heap.size ≤ C → C ≤ W1.heap.size → J C pre W1 → GS E F w0.heap.size pre x W1 → YieldAt Fence.wide (n - 1) Tryz.prog l (encS x) W1 fun e W' =>
      (e = .returned (.bool true) ∧ J C (pre ++ [x]) W' ∧ KS8 w0.heap.size C W1 W') ∨ (e = .returned (.bool false) ∧ Jx C (pre ++ [x]) W' ∧ C ≤ W'.heap.size)) := hY
  have HR : Hid (Rst E N T K ∧ Rst F N T K) := ⟨hE, hF⟩
  have mk : Hid (∀ W', Below W.heap.size W W' → W'.cell? ⟨x, 0, none⟩ = some v ∧ W'.cell? ⟨y, 0, none⟩ = some v') := fun W' h => ⟨(h.cell (lt_of_cell c0)).trans c0, (h.cell (lt_of_cell c1)).trans c1⟩
  have hN2 : Hid (2 ≤ n) := hn
  have HH0 : Hid (∀ W1, Below W.heap.size W W1 → J W1.heap.size [] W1) := h0
  clear hY hJ hJx hx hy hd hd' hA1 hA2 hE hF hW h0 hn
  refine callsIn_of_wp Tryz.func67 rfl trivial ?_ rfl
  simp only [Tryz.ntmps67, List.size_toArray, List.length_cons, List.length_nil, Nat.reduceAdd, Nat.reduceSub, Array.replicate_succ, Array.replicate_zero, List.push_toArray, List.append_toArray, List.nil_append, List.cons_append]
  have m0 := mk.out W (Below.refl _ _)
  rw [wpIn_wide]
  go_upto_region 0 with fail
  go_cut [4, 5] (fun x4 x5 wx => ∃ qa qb, x4 = .pointer (some ⟨qa, 0, none⟩) ∧ x5 = .pointer (some ⟨qb, 0, none⟩) ∧ TwoC wx W.heap.size wx.heap.size qa qb E F ∧ Below W.heap.size W wx)
  case first =>
    go_region_held3 (fun w' => w'.cell? ⟨x, 0, none⟩ = some v ∧ w'.cell? ⟨y, 0, none⟩ = some v' ∧ Below W.heap.size W w')
      (exact ⟨by first | (with_reducible assumption) | exact m0.1, by first | (with_reducible assumption) | exact m0.2, by first | (with_reducible assumption) | exact (Below.refl _ _).drew⟩)
      (first
        | (go_at_call_of 22 v; refine (cA _ ?_).mono ?_; (· first | (with_reducible assumption) | (apply And.right; apply And.right; with_reducible assumption)); rintro r wA ⟨⟨qa, ga, rfl, ka, la, bA⟩, dA⟩; obtain ⟨mA1, mA2⟩ := mk.out _ dA)
        | (go_at_call_of 22 v'; refine (cB _ ?_).mono ?_; (· first | (with_reducible assumption) | (apply And.right; apply And.right; with_reducible assumption)); rintro r wB ⟨⟨qb, gb, rfl, kb, lb, bB⟩, dB⟩; obtain ⟨mB1, mB2⟩ := mk.out _ dB))
    all_goals (try go_wp2)
    all_goals go_meet
    · exact ⟨qa, qb, rfl, rfl, two_ofC ka la (Nat.le_refl _) kb lb bB, dB⟩
  case rest =>
    obtain ⟨qa, qb, rfl, rfl, h2, b2⟩ := hcut
    obtain ⟨C, hC⟩ : ∃ C, wc.heap.size = C := ⟨_, rfl⟩
    have hJ2 : J C [] wc := by rw [← hC]; exact HH0.out _ b2
    have hzc : C ≤ wc.heap.size := by omega
    have HC : Hid (W.heap.size ≤ C) := by have := b2.size; show _ ≤ _; omega
    have H2 : Hid (TwoC wc W.heap.size C qa qb E F) := by rw [← hC]; exact h2
    clear cA cB m0 h2 b2 c0 c1 mk HH0 hC
    go_wp2_with fail
    refine (wpIn_wide (n := n)).1 ?_
    gi_loopw [6, 7] (fun _ _ wr => ∃ (k : Nat) (xs : List (Value × Value)), xs.length = k ∧ J C xs wr ∧ C ≤ wr.heap.size ∧ Hid (Run7 E F k) ∧ Hid (TwoC wr W.heap.size C qa qb (it7 E F k).1 (it7 E F k).2)) (fun _ _ wr => wlen wr qa + wlen wr qb)
    case atStart => exact ⟨0, [], rfl, hJ2, hzc, fun j hj => by omega, H2⟩
    case round =>
      clear hJ2 H2 hzc
      obtain ⟨k, xs, hk, hJk, hsz, HRun, HTwo⟩ := hrel
      have hRk := it_rst HR.out.1 HR.out.2 hT hN k
      have cDa : Calls Tryz.prog 23 #[.pointer (some ⟨qa, 0, none⟩)] wr fun r w' => r = .returned (.bool (decide ((it7 E F k).1 = []))) ∧ Below wr.heap.size wr w' := by obtain ⟨ga, gb, h, _⟩ := HTwo.out; exact doneW_any wr h.a
      have cDb : ∀ W', Below wr.heap.size wr W' → Calls Tryz.prog 23 #[.pointer (some ⟨qb, 0, none⟩)] W' fun r w' => r = .returned (.bool (decide ((it7 E F k).2 = []))) ∧ Below W'.heap.size W' w' := fun W' b => by obtain ⟨ga, gb, h, _⟩ := HTwo.out; exact doneW_any W' (h.b.below b)
      have cSt := fun W' (h : TwoC W' W.heap.size C qa qb (it7 E F k).1 (it7 E F k).2) => step8_any W' h hRk.1 hRk.2 hT hK hN
      have HRk : Hid _ := hRk
      clear hRk
      by_cases hR : (it7 E F k).1 = []
      · rw [decide_eq_true hR] at cDa
        by_cases hS : (it7 E F k).2 = []
        · simp only [decide_eq_true hS] at cDb
          gi_wp2
          refine ⟨trivial, (fun _ => Nat.le_trans (by decide) hN2.out), (callsIn_wide.2 cDa).mono ?_⟩
          rintro r w3 ⟨rfl, hb3⟩
          have cD2 := cDb w3 hb3
          have hJ3 := HJ.out _ _ _ _ hJk (It8.of_below hb3)
          gi_wp2
          refine ⟨trivial, (fun _ => Nat.le_trans (by decide) hN2.out), (callsIn_wide.2 cD2).mono ?_⟩
          rintro r w4 ⟨rfl, hb4⟩
          have hJ4 := HJ.out _ _ _ _ hJ3 (It8.of_below hb4)
          have HE : Hid (Run7 E F xs.length ∧ (it7 E F xs.length).1 = [] ∧ (it7 E F xs.length).2 = []) := by rw [hk]; exact ⟨HRun.out, hR, hS⟩
          have hz4 : C ≤ w4.heap.size := Nat.le_trans hsz (Nat.le_trans hb3.size hb4.size)
          clear cDa cDb cSt cD2 hJ3 hJk hb3 hb4 hR hS hk
          gi_wp2
          go_end0
          exact ⟨⟨_, rfl⟩, C, HC.out, hz4, .inl ⟨xs, HE.out, hJ4⟩⟩
        · simp only [decide_eq_false hS] at cDb
          gi_wp2
          refine ⟨trivial, (fun _ => Nat.le_trans (by decide) hN2.out), (callsIn_wide.2 cDa).mono ?_⟩
          rintro r w3 ⟨rfl, hb3⟩
          have cD2 := cDb w3 hb3
          gi_wp2
          refine ⟨trivial, (fun _ => Nat.le_trans (by decide) hN2.out), (callsIn_wide.2 cD2).mono ?_⟩
          rintro r w4 ⟨rfl, hb4⟩
          have b4 := hb3.trans (hb4.mono hb3.size)
          have HNE : Hid (¬ ((it7 E F k).1 = [] ∧ (it7 E F k).2 = [])) := fun h => hS h.2
          clear cDa cDb cD2 hb3 hb4 hR hS
          have H4 : Hid (TwoC w4 W.heap.size C qa qb (it7 E F k).1 (it7 E F k).2 ∧ Below wr.heap.size wr w4) := ⟨HTwo.out.below b4, b4⟩
          have cS := cSt w4 H4.out.1
          clear cSt b4
          gi_wp2
          refine ⟨trivial, (fun _ => Nat.le_trans (by decide) hN2.out), (callsIn_wide.2 cS).mono ?_⟩
          rintro r w5 ⟨p, q, rfl, hp, hq, h5, i5⟩
          have hJ5 := HJ.out _ _ _ _ (HJ.out _ _ _ _ hJk (It8.of_below H4.out.2)) i5
          have hz5 : C ≤ w5.heap.size := Nat.le_trans hsz (Nat.le_trans H4.out.2.size i5.size)
          have hG : GS E F w0.heap.size xs (p, q) w5 := by
            unfold GS
            rw [hk]
            exact ⟨HNE.out, HRun.out, hp.low hz0, hq.low hz0⟩
          have hYk := HY.out C xs (p, q) w5 HC.out hz5 hJ5 hG
          have hlen := st_len HRk.out.1 HRk.out.2 hT hN HNE.out
          have H5 : Hid (TwoC w5 W.heap.size C qa qb (it7 E F (k + 1)).1 (it7 E F (k + 1)).2 ∧ Run7 E F (k + 1) ∧ wlen wr qa + wlen wr qb = (it7 E F k).1.length + (it7 E F k).2.length ∧ (it7 E F (k + 1)).1.length + (it7 E F (k + 1)).2.length < (it7 E F k).1.length + (it7 E F k).2.length ∧ xs.length = k ∧ C ≤ w5.heap.size) :=
            ⟨h5, fun j hj => by
              rcases Nat.lt_or_ge j k with h | h
              · exact HRun.out j h
              · have : j = k := by omega
                subst this; exact HNE.out, HTwo.out.wlen, hlen, hk, hz5⟩
          obtain ⟨fn, tm, asg, bo, hy, hR⟩ := hYk
          clear cS hp hq h5 i5 hJk hJ5 hG hk hsz hz5 HNE hlen H4
          gi_wp2
          refine ⟨(fun _ => Nat.le_trans (by decide) hN2.out), hR.mono ?_⟩
          rintro e' W3 (⟨rfl, hJ3, hk3⟩ | ⟨rfl, hJx3, hzx⟩)
          · have H3 : Hid (TwoC W3 W.heap.size C qa qb (it7 E F (k + 1)).1 (it7 E F (k + 1)).2 ∧ C ≤ W3.heap.size) := ⟨hk3.two H5.out.1 hz0, Nat.le_trans H5.out.2.2.2.2.2 hk3.size⟩
            clear hk3
            gi_wp2
            go_roundw
            case rel => exact ⟨k + 1, xs ++ [(p, q)], by rw [List.length_append, H5.out.2.2.2.2.1]; rfl, hJ3, H3.out.2, H5.out.2.1, H3.out.1⟩
            case measure => rw [H3.out.1.wlen, H5.out.2.2.1]; exact H5.out.2.2.2.1
          · gi_wp2
            refine bodyPost_ret (results_none rfl _ _ _) rfl ?_
            exact ⟨⟨_, rfl⟩, C, HC.out, hzx, .inr ⟨_, hJx3⟩⟩
      · rw [decide_eq_false hR] at cDa
        gi_wp2
        refine ⟨trivial, (fun _ => Nat.le_trans (by decide) hN2.out), (callsIn_wide.2 cDa).mono ?_⟩
        rintro r w4 ⟨rfl, b4⟩
        have HNE : Hid (¬ ((it7 E F k).1 = [] ∧ (it7 E F k).2 = [])) := fun h => hR h.1
        clear cDa cDb hR
        have H4 : Hid (TwoC w4 W.heap.size C qa qb (it7 E F k).1 (it7 E F k).2 ∧ Below wr.heap.size wr w4) := ⟨HTwo.out.below b4, b4⟩
        have cS := cSt w4 H4.out.1
        clear cSt b4
        gi_wp2
        refine ⟨trivial, ?_⟩
        gi_wp2
        refine ⟨trivial, (fun _ => Nat.le_trans (by decide) hN2.out), (callsIn_wide.2 cS).mono ?_⟩
        rintro r w5 ⟨p, q, rfl, hp, hq, h5, i5⟩
        have hJ5 := HJ.out _ _ _ _ (HJ.out _ _ _ _ hJk (It8.of_below H4.out.2)) i5
        have hz5 : C ≤ w5.heap.size := Nat.le_trans hsz (Nat.le_trans H4.out.2.size i5.size)
        have hG : GS E F w0.heap.size xs (p, q) w5 := by
          unfold GS
          rw [hk]
          exact ⟨HNE.out, HRun.out, hp.low hz0, hq.low hz0⟩
        have hYk := HY.out C xs (p, q) w5 HC.out hz5 hJ5 hG
        have hlen := st_len HRk.out.1 HRk.out.2 hT hN HNE.out
        have H5 : Hid (TwoC w5 W.heap.size C qa qb (it7 E F (k + 1)).1 (it7 E F (k + 1)).2 ∧ Run7 E F (k + 1) ∧ wlen wr qa + wlen wr qb = (it7 E F k).1.length + (it7 E F k).2.length ∧ (it7 E F (k + 1)).1.length + (it7 E F (k + 1)).2.length < (it7 E F k).1.length + (it7 E F k).2.length ∧ xs.length = k ∧ C ≤ w5.heap.size) :=
          ⟨h5, fun j hj => by
            rcases Nat.lt_or_ge j k with h | h
            · exact HRun.out j h
            · have : j = k := by omega
              subst this; exact HNE.out, HTwo.out.wlen, hlen, hk, hz5⟩
        obtain ⟨fn, tm, asg, bo, hy, hR⟩ := hYk
        clear cS hp hq h5 i5 hJk hJ5 hG hk hsz hz5 HNE hlen H4
        gi_wp2
        refine ⟨(fun _ => Nat.le_trans (by decide) hN2.out), hR.mono ?_⟩
        rintro e' W3 (⟨rfl, hJ3, hk3⟩ | ⟨rfl, hJx3, hzx⟩)
        · have H3 : Hid (TwoC W3 W.heap.size C qa qb (it7 E F (k + 1)).1 (it7 E F (k + 1)).2 ∧ C ≤ W3.heap.size) := ⟨hk3.two H5.out.1 hz0, Nat.le_trans H5.out.2.2.2.2.2 hk3.size⟩
          clear hk3
          gi_wp2
          go_roundw
          case rel => exact ⟨k + 1, xs ++ [(p, q)], by rw [List.length_append, H5.out.2.2.2.2.1]; rfl, hJ3, H3.out.2, H5.out.2.1, H3.out.1⟩
          case measure => rw [H3.out.1.wlen, H5.out.2.2.1]; exact H5.out.2.2.2.1
        · gi_wp2
          refine bodyPost_ret (results_none rfl _ _ _) rfl ?_
          exact ⟨⟨_, rfl⟩, C, HC.out, hzx, .inr ⟨_, hJx3⟩⟩
end Go.Proofs.YtplnojapnaaakaaGreatDoor

/- A Builder that is written while another function's cells turn beside it. -/
namespace Go.Proofs.YtplnojapnaaakaaGreatDoor
open Go Go.RowKit Go.Lib
set_option linter.unusedVariables false
/-- Blocks that are none of the builder's may be kept beside. -/
theorem BldE.more {w : World} {B g : Nat} {D : Nat → Prop} {b r : Int} {P : List Op5} {d : Int} (h : BldE w B D g b r P d) (S : Nat → Prop) (hS : ∀ k, S k → ∃ o, w.heap[k]? = some o ∧ ∀ cs t fz, o = .cells cs t fz → t ≠ 94 ∧ t ≠ 56) : BldE w B (fun i => D i ∨ S i) g b r P d := by
  obtain ⟨pv, PL, l, h⟩ := h
  refine ⟨pv, PL, l, h.sb, ?_, h.row, fun j hj => ?_, h.pie, h.txt⟩
  · rintro (e | e)
    · exact h.nd e
    · obtain ⟨_, _, _, _, _, _, cs', hg⟩ := h.sb.cells
      obtain ⟨o, ho, hn⟩ := hS _ e
      rw [hg] at ho
      exact (hn cs' _ _ (Option.some.inj ho).symm).1 rfl
  · rintro (e | e)
    · exact h.rnd j hj e
    · obtain ⟨_, cur, h3⟩ := owns_block h.row j hj
      obtain ⟨o, ho, hn⟩ := hS _ e
      rw [h3] at ho
      exact (hn cur _ _ (Option.some.inj ho).symm).2 rfl
theorem Gath.tr8 {A A' : World} {B g M C : Nat} {D : Nat → Prop} {E : List Op5} (h : Gath A B D g E) (k : Tr8 TW M C A A') (hD : ∀ i, M ≤ i → i < C → D i) : Gath A' B D g E := by
  have nb : ¬ TW 94 := by unfold TW; decide
  have nu : ¬ TW 5 := by unfold TW; decide
  have na : ¬ TW 154 := by unfold TW; decide
  obtain ⟨pv, PL, l, h⟩ := h
  obtain ⟨av, jv, hs⟩ := h.sb
  refine ⟨pv, PL, l, ⟨av, jv, hs.lo, k.kept _ _ hs.at_ (.inr (.inr ⟨_, _, _, rfl, nb⟩)), rowF_same hs.buf fun j hj => ?_, hs.adr⟩, h.nd, owns_same h.row fun j hj => ?_, h.rnd, h.pie.keep fun j cur hj => (k.kept _ _ hj (.inr (.inr ⟨_, _, _, rfl, na⟩))).trans hj.symm, h.txt⟩
  · obtain ⟨c, fz, hc⟩ := ownsRowF_kind hs.buf j hj
    exact (k.kept _ _ hc (.inr (.inr ⟨_, _, _, rfl, nu⟩))).trans hc.symm
  · obtain ⟨_, cur, hc⟩ := owns_block h.row j hj
    have hn := h.rnd j hj
    exact (k.kept _ _ hc (by
      rcases Nat.lt_or_ge j M with h1 | h1
      · exact .inl h1
      · rcases Nat.lt_or_ge j C with h2 | h2
        · exact absurd (hD j h1 h2) hn
        · exact .inr (.inl h2))).trans hc.symm
theorem new_all10 {B : Nat} (w : World) (hB : B ≤ w.heap.size) :
    Calls Tryz.prog 9 #[] w fun e w' => e = .returned (.pointer (some ⟨w.heap.size, 0, none⟩)) ∧ (∀ D : Nat → Prop, ¬ D w.heap.size → Gath w' B D w.heap.size []) ∧ Below w.heap.size w w' := by
  go_enter Tryz.func9, Tryz.ntmps9
  go_wp2
  go_ret
  refine ⟨rfl, fun D hD => ?_, (Below.refl _ _).alloc (Nat.le_refl _) _⟩
  refine ⟨.slice none 0 0, [], [], ⟨.pointer none, .slice none 0 0, hB, ?_, World.ownsRowF_nil _ _ _ _, Or.inl rfl⟩, hD, World.ownsRow_nil _ _ _ _, fun k hk => (by cases hk), .nil, Or.inl rfl⟩
  exact heap_alloc_new w _
/-- Blocks of other types than a builder's. -/
def Far10 (W : World) (k : Nat) : Prop := ∃ o, W.heap[k]? = some o ∧ ∀ cs t fz, o = .cells cs t fz → t ≠ 94 ∧ t ≠ 56 ∧ t ≠ 5
theorem Gath.far {w : World} {B g : Nat} {D : Nat → Prop} {E : List Op5} (h : Gath w B D g E) : Gath w B (fun i => D i ∨ Far10 w i) g E :=
  BldE.more h (Far10 w) fun k ⟨o, h1, h2⟩ => ⟨o, h1, fun cs t fz e => ⟨(h2 cs t fz e).1, (h2 cs t fz e).2.1⟩⟩
theorem Far10.lt {w : World} {k : Nat} (h : Far10 w k) : k < w.heap.size := by
  obtain ⟨o, h1, _⟩ := h
  exact (Array.getElem?_eq_some_iff.1 h1).1
/-- What is kept of a step's push, told for the loop. -/
theorem push_keeps {W W' : World} {Bb : Nat} {D : Nat → Prop} (f : FrB Bb (fun i => D i ∨ Far10 W i) W W') :
    (∀ (k : Nat) (o : Obj), W.heap[k]? = some o → (∀ cs t fz, o = .cells cs t fz → t ≠ 94 ∧ t ≠ 56 ∧ t ≠ 5) → W'.heap[k]? = some o) ∧ (∀ M, KeepsFrom M W W') ∧ ∀ M C, (∀ i, M ≤ i → i < C → D i) → KS8 M C W W' := by
  have key : ∀ (k : Nat) (o : Obj), W.heap[k]? = some o → (∀ cs t fz, o = .cells cs t fz → t ≠ 94 ∧ t ≠ 56 ∧ t ≠ 5) → W'.heap[k]? = some o := fun k o hk hn => f.kept k o hk (.inr ⟨o, hk, hn⟩) fun c fz e => (hn c _ fz e).2.2 rfl
  refine ⟨key, fun M => ⟨f.below.size, fun k o _ hk hc => key k o hk fun cs t fz e => by rw [e] at hc; cases hc⟩, fun M C hD => ⟨f.below.size, fun k cs t fz hk ht => ?_⟩⟩
  rcases ht with ⟨h1, h2, h3⟩ | rfl
  · refine f.kept k _ hk (.inl (hD k h2 h3)) fun c fz' e => ?_
    simp only [Obj.cells.injEq] at e
    rw [e.2.1] at h1
    exact absurd h1 (by unfold TW; decide)
  · exact key k _ hk fun cs' t' fz' e => by
      simp only [Obj.cells.injEq] at e
      rw [← e.2.1]
      decide
/-- A delta stands where cells of other types are written. -/
theorem DelV.keepT {w w' : World} {B1 B2 : Nat} {v : Value} {E : List Op5} (h : DelV w B1 B2 v E) (k : ∀ (j : Nat) (cs : Array Value) (t : TypeId), w.heap[j]? = some (.cells cs t (0, 0)) → (t = 101 ∨ t = 56 ∨ t = 154) → w'.heap[j]? = w.heap[j]?) : DelV w' B1 B2 v E := by
  obtain ⟨q, pv, PL, h1, h2, h3, h4, h5⟩ := h
  refine ⟨q, pv, PL, h1, h2, (k _ _ _ h3 (.inl rfl)).trans h3, owns_same h4 fun j hj => ?_, h5.keep fun j cur hj => k _ _ _ hj (.inr (.inr rfl))⟩
  obtain ⟨_, cur, hc⟩ := owns_block h4 j hj
  exact k _ _ _ hc (.inr (.inl rfl))
theorem keep_set10 {w : World} {g : Nat} {cs : Array Value} {t : TypeId} (hg : w.heap[g]? = some (.cells cs t (0, 0))) (ht : t ≠ 101 ∧ t ≠ 56 ∧ t ≠ 154) (i : Nat) (u : Value) : ∀ (j : Nat) (cs : Array Value) (t : TypeId), w.heap[j]? = some (.cells cs t (0, 0)) → (t = 101 ∨ t = 56 ∨ t = 154) → (w.setCell ⟨g, i, none⟩ u).heap[j]? = w.heap[j]? := fun j cs' t' hj h => Below.heap_setCell _ _ _ _ fun e => by
  subst e
  rw [hg] at hj
  simp only [Option.some.injEq, Obj.cells.injEq] at hj
  rw [← hj.2.1] at h
  rcases h with h | h | h
  · exact ht.1 h
  · exact ht.2.1 h
  · exact ht.2.2 h
theorem keep_put10 {w : World} {D : Nat} {o o' : Obj} (hD : w.heap[D]? = some o) (ho : o.isCells = false) : ∀ (j : Nat) (cs : Array Value) (t : TypeId), w.heap[j]? = some (.cells cs t (0, 0)) → (t = 101 ∨ t = 56 ∨ t = 154) → (w.putObj D o').heap[j]? = w.heap[j]? := fun j cs' t' hj _ => World.putObj_heap_other fun e => by
  subst e
  rw [hD] at hj
  rw [Option.some.inj hj] at ho
  cases ho
theorem Tr7.below_put10 {n D : Nat} {w A : World} {o o' : Obj} (h : Below n w A) (hK : A.heap[D]? = some o) (hD : n ≤ D) : Below n w (A.putObj D o') :=
  ⟨h.os, h.tape, h.output, by have := h.size; simpa using this, fun k hk => (World.putObj_heap_other (by omega)).trans (h.block k hk)⟩
end Go.Proofs.YtplnojapnaaakaaGreatDoor

/- apply.Apply. -/
namespace Go.Proofs.YtplnojapnaaakaaGreatDoor
open Go Go.RowKit Go.Lib Go.Shelf
set_option linter.unusedVariables false
attribute [local go_sem] Oper.semAt_some
/-- Two deltas that the step by step way may take. -/
structure Two10 (E F : List Op5) (N T K : Nat) : Prop where
  e : Rst E N T K
  f : Rst F N T K
  t : T + T ≤ 8388608
  n : N + N ≤ 4194304
  k : K + K ≤ 1048576
/-- What the loop of Apply keeps. -/
structure In10 (w : World) (M g bx r4 r5 : Nat) (E F : List Op5) (C : Nat) (pre : List (Value × Value)) (A : World) : Prop where
  ga : Gath A w.heap.size (fun i => M ≤ i ∧ i < C) g (gat10 E F pre.length)
  b : A.heap[bx]? = some (.cells #[.pointer (some ⟨g, 0, none⟩)] 24 (0, 0))
  r : A.heap[r4]? = some (.cells #[.pointer none] 36 (0, 0))
  e : A.heap[r5]? = some (.cells #[.nilIface] 40 (0, 0))
  below : Below w.heap.size w A
theorem In10.tr {w : World} {M g bx r4 r5 C : Nat} {E F : List Op5} {pre : List (Value × Value)} {A A' : World} (h : In10 w M g bx r4 r5 E F C pre A) (k : Tr8 TW M C A A') (hb : bx < M) (h4 : r4 < M) (h5 : r5 < M) (hw : w.heap.size ≤ M) : In10 w M g bx r4 r5 E F C pre A' :=
  ⟨h.ga.tr8 k fun i h1 h2 => ⟨h1, h2⟩, k.kept _ _ h.b (.inl hb), k.kept _ _ h.r (.inl h4), k.kept _ _ h.e (.inl h5), tr_below8 h.below (Nat.le_refl _) hw k.seven⟩
theorem In10.push {w : World} {M g bx r4 r5 C : Nat} {E F : List Op5} {pre : List (Value × Value)} {x : Value × Value} {A A' : World} (h : In10 w M g bx r4 r5 E F C pre A) (hg : Gath A' w.heap.size (fun i => (M ≤ i ∧ i < C) ∨ Far10 A i) g (gat10 E F (pre.length + 1))) (f : FrB w.heap.size (fun i => (M ≤ i ∧ i < C) ∨ Far10 A i) A A') : KeepsFrom M A A' ∧ KS8 M C A A' ∧ In10 w M g bx r4 r5 E F C (pre ++ [x]) A' := by
  obtain ⟨k1, k2, k3⟩ := push_keeps f
  refine ⟨k2 M, k3 M C fun i h1 h2 => ⟨h1, h2⟩, ?_, k1 _ _ h.b fun cs t fz e => by cases e; decide, k1 _ _ h.r fun cs t fz e => by cases e; decide, k1 _ _ h.e fun cs t fz e => by cases e; decide, h.below.trans f.below⟩
  rw [List.length_append]
  exact BldE.anti hg fun i hi => .inl hi
theorem apply_leave (A : World) (D r4 r5 : Nat) (tmps : Array Value) (dv : Value) {R : Value → World → Prop} (h4 : tmps[4]? = some (.pointer (some ⟨r4, 0, none⟩))) (h5 : tmps[5]? = some (.pointer (some ⟨r5, 0, none⟩))) (hK : A.heap[D]? = some (.deferred (some []))) (c4 : A.cell? ⟨r4, 0, none⟩ = some dv) (c5 : A.cell? ⟨r5, 0, none⟩ = some .nilIface) (n4 : r4 ≠ D) (n5 : r5 ≠ D) (h : R dv (A.putObj D (.deferred none))) :
    bodyPostM Fence.wide 15 Tryz.prog Tryz.f33 (fun r w' => ∃ dv, r = .returned (.tuple #[dv, .nilIface]) ∧ R dv w') Exit.ret { tmps := tmps, defers := [{ target := .collected D, args := #[] }] } A := by
  have g4 : (A.putObj D (.deferred none)).cell? ⟨r4, 0, none⟩ = some dv := (World.cell?_of_block (a := ⟨r4, 0, none⟩) (World.putObj_heap_other n4)).trans c4
  have g5 : (A.putObj D (.deferred none)).cell? ⟨r5, 0, none⟩ = some .nilIface := (World.cell?_of_block (a := ⟨r5, 0, none⟩) (World.putObj_heap_other n5)).trans c5
  refine ⟨by simp, .inl ⟨_, _, rfl, run_takeDeferred hK, ?_⟩⟩
  refine ⟨.tuple #[dv, .nilIface], ?_, ⟨dv, rfl, h⟩⟩
  simp [results, Tryz.results33, go_sem, h4, h5, g4, g5]
set_option maxHeartbeats 8000000 in
set_option maxRecDepth 100000 in
theorem apply10_any {I : List Nat} {a : Nat → Addr} {B1 B2 C1 C2 N T K : Nat} (v u : Value) (E F : List Op5) (w : World) (hI : ∀ i ∈ IxO, i ∈ I) (h11 : 11 ∈ I) (hS : Std I a w) (hE : DlE w B1 B2 v E) (hF : DlE w C1 C2 u F) (h2 : Two10 E F N T K) :
    Calls Tryz.prog 33 #[v, u] w fun r w' => ∃ dv, r = .returned (.tuple #[dv, errOf a (chkE10 E F)]) ∧ (chkE10 E F ≠ 0 → dv = .pointer none) ∧ (∀ xs, chkE10 E F = 0 → edit (units F) (cellsL E) = some xs → DelV w' w.heap.size w.heap.size dv (docOf xs)) ∧ Below w.heap.size w w' := by
  have cC : Hid (∀ W, Below w.heap.size w W → Calls Tryz.prog 78 #[v, u] W fun e w' => e = .returned (errOf a (chkE10 E F)) ∧ Below W.heap.size W w') := fun W b => check10_any v u E F W (hS.below b) (hI 8 (by decide)) (hI 10 (by decide)) h11 (hE.below b) (hF.below b)
  have HS : Hid ((∀ W, Below w.heap.size w W → Std I a W) ∧ ∀ i ∈ IxO, i ∈ I) := ⟨fun W b => hS.below b, hI⟩
  have H2 : Hid (Two10 E F N T K) := h2
  have HD : Hid (∀ W, Below w.heap.size w W → DelV W B1 B2 v E ∧ DelV W C1 C2 u F) := fun W b => ⟨hE.d.below b, hF.d.below b⟩
  have HG : Hid ((∀ o ∈ E, opE o = 0) ∧ ∀ o ∈ F, opE o = 0) := ⟨hE.g, hF.g⟩
  obtain ⟨q1, rfl⟩ : ∃ q, v = .pointer (some ⟨q, 0, none⟩) := by obtain ⟨q, _, _, e, _⟩ := hE.d; exact ⟨q, e⟩
  obtain ⟨q2, rfl⟩ : ∃ q, u = .pointer (some ⟨q, 0, none⟩) := by obtain ⟨q, _, _, e, _⟩ := hF.d; exact ⟨q, e⟩
  obtain ⟨er, her⟩ : ∃ er, chkE10 E F = er := ⟨_, rfl⟩
  have HER : Hid (chkE10 E F = er) := her
  rw [her] at cC ⊢
  clear hI h11 hS hE hF h2 her
  refine (callsIn_wide (n := 15)).1 ?_
  refine callsIn_of_wp_marks Tryz.func33 rfl trivial ?_ rfl
  simp only [Tryz.ntmps33, List.size_toArray, List.length_cons, List.length_nil, Nat.reduceAdd, Nat.reduceSub, Array.replicate_succ, Array.replicate_zero, List.push_toArray, List.append_toArray, List.nil_append, List.cons_append]
  rw [wpIn_wide]
  have b0 : Below w.heap.size w ((w.alloc (.cells #[.pointer none] 36)).alloc (.cells #[.nilIface] 40)) := ((Below.refl _ _).alloc (Nat.le_refl _) _).alloc (by simp) _
  have n4 := (Below.heap_alloc (w.alloc (.cells #[.pointer none] 36)) (.cells #[.nilIface] 40) _ (by simp)).trans (heap_alloc_new w (.cells #[.pointer none] 36))
  have n5 := heap_alloc_new (w.alloc (.cells #[.pointer none] 36)) (.cells #[.nilIface] 40)
  rw [World.size_alloc] at n5
  have c1 := cC.out _ b0
  go_wp2_with fail
  refine c1.mono ?_; rintro r w1 ⟨rfl, hb1'⟩
  have hb1 := b0.trans (hb1'.mono b0.size)
  have m4 := heap_below hb1' n4
  have m5 := heap_below hb1' n5
  clear c1 cC hb1' b0 n4 n5
  cases er with
  | succ e =>
    obtain ⟨t0, y0, hv0⟩ : ∃ t y, errOf a (e + 1) = .iface t y := ⟨_, _, rfl⟩
    have HV : Hid (errOf a (e + 1) = .iface t0 y0) := hv0
    rw [hv0]
    have g4 : w1.cell? ⟨w.heap.size, 0, none⟩ = some (.pointer none) := by rw [cell_of_heap m4]; rfl
    have g5 : w1.cell? ⟨w.heap.size + 1, 0, none⟩ = some .nilIface := by rw [cell_of_heap m5]; rfl
    have f4 := frozen_of_heap m4 0
    have f5 := frozen_of_heap m5 0
    clear hv0 m4 m5
    go_wp2
    refine ⟨.tuple #[.pointer none, .iface t0 y0], by simp [results, Tryz.results33, go_sem, g4, g5], _, by rw [HV.out], fun _ => rfl, fun xs h => (by cases h), ?_⟩
    exact (hb1.setCell (p := ⟨w.heap.size, 0, none⟩) (Nat.le_refl _) _).setCell (p := ⟨w.heap.size + 1, 0, none⟩) (Nat.le_succ _) _
  | zero =>
    rw [show errOf a 0 = .nilIface from rfl]
    obtain ⟨x1, hd1, xs, hxs, x2, x3, x4⟩ := chk10_edit HG.out.1 HG.out.2 HER.out
    have HX : Hid (DocL E ∧ edit (units F) (cellsL E) = some xs ∧ (xs.length : Int) ≤ 1099511627776) := ⟨hd1, hxs, by omega⟩
    clear x1 hd1 hxs x2 x3 x4
    have c2 := new_all10 (B := w.heap.size) w1 hb1.size
    go_wp2_with fail
    refine c2.mono ?_; rintro r w2 ⟨rfl, hg2, hb2'⟩
    have hb2 := hb1.trans (hb2'.mono hb1.size)
    have bX : Below w2.heap.size w2 (w2.alloc (.cells #[.pointer (some ⟨w1.heap.size, 0, none⟩)] 24)) := (Below.refl _ _).alloc (Nat.le_refl _) _
    have nX := heap_alloc_new w2 (.cells #[.pointer (some ⟨w1.heap.size, 0, none⟩)] 24)
    have hg3 : ∀ D : Nat → Prop, ¬ D w1.heap.size → Gath (w2.alloc (.cells #[.pointer (some ⟨w1.heap.size, 0, none⟩)] 24)) w.heap.size D w1.heap.size [] := fun D hD => BldE.below (hg2 D hD) bX
    have hb3 := hb2.trans (bX.mono hb2.size)
    have m4' := heap_below bX (heap_below hb2' m4)
    have m5' := heap_below bX (heap_below hb2' m5)
    have c3 := steps7_call _ _ E F _ (HD.out _ hb3).1 (HD.out _ hb3).2
    have hlt2 : w1.heap.size < w2.heap.size := by have := BldE.lo (hg2 (fun _ => False) id); omega
    have HL : Hid (w.heap.size + 1 < w1.heap.size ∧ w1.heap.size < w2.heap.size) := ⟨(Array.getElem?_eq_some_iff.1 m5).1, hlt2⟩
    clear c2 hg2 hb2' hb1 hb2 m4 m5 hlt2
    go_wp2_with fail
    refine c3.mono ?_; rintro r w4 ⟨x, y, rfl, hx, hy, hb4'⟩
    have hb4 := hb3.trans (hb4'.mono hb3.size)
    have m4 := heap_below hb4' m4'
    have m5 := heap_below hb4' m5'
    have mX := heap_below hb4' nX
    have H4 : Hid ((∀ D : Nat → Prop, ¬ D w1.heap.size → Gath w4 w.heap.size D w1.heap.size []) ∧ w4.heap[w2.heap.size]? = some (.cells #[.pointer (some ⟨w1.heap.size, 0, none⟩)] 24 (0, 0)) ∧ w4.heap[w.heap.size]? = some (.cells #[.pointer none] 36 (0, 0)) ∧ w4.heap[w.heap.size + 1]? = some (.cells #[.nilIface] 40 (0, 0)) ∧ Below w.heap.size w w4 ∧ BoxD w4 x B1 B2 E ∧ BoxD w4 y C1 C2 F ∧ w2.heap.size < w4.heap.size) := ⟨fun D hD => BldE.below (hg3 D hD) hb4', mX, m4, m5, hb4, hx, hy, (Array.getElem?_eq_some_iff.1 mX).1⟩
    clear c3 hb4' hb3 hg3 nX bX m4' m5' hx hy hb4 m4 m5 mX
    go_wp2_with fail
    have HM : Hid (w.heap.size ≤ w4.heap.size ∧ w2.heap.size < w4.heap.size ∧ w.heap.size + 1 < w4.heap.size ∧ w1.heap.size < w4.heap.size) := by have h1 := HL.out; have h2 := H4.out.2.2.2.2.2.2.2; show _ ∧ _; omega
    refine (wpIn_wide (n := 15)).1 ?_
    refine wpIn_rangeFunc_GS (encs := encS) rfl (by decide) (gf := 67) (lb := #[.pointer (some ⟨x, 0, none⟩), .pointer (some ⟨y, 0, none⟩)]) rfl trivial (enters_of Tryz.func67 (by kernel_rfl) rfl)
      (steps8_seq E F w4 x y B1 B2 C1 C2 H4.out.2.2.2.2.2.1 H4.out.2.2.2.2.2.2.1 H2.out.e H2.out.f (by have := H2.out.t; omega) (by have := H2.out.k; omega) (by have := H2.out.n; omega) 14 (by decide)) (Below.refl _ _) (fun _ => rfl) (fun pre x A A' h k => h.bk k.seven) (fun C pre x A A' B B' _ k1 h k2 => KS8.bk k1 h k2)
      (fun C pre A => In10 w w4.heap.size w1.heap.size w2.heap.size w.heap.size (w.heap.size + 1) E F C pre A) (fun _ _ _ _ => False)
      (fun C s A A' _ h k => h.tr k HM.out.2.1 (by have := HM.out; omega) HM.out.2.2.1 HM.out.1) (fun _ _ _ _ _ _ h _ => h)
      (fun W b => ⟨BldE.below (H4.out.1 _ (by have := HM.out; omega)) b, heap_below b H4.out.2.1, heap_below b H4.out.2.2.1, heap_below b H4.out.2.2.2.1, H4.out.2.2.2.2.1.trans (b.mono H4.out.2.2.2.2.1.size)⟩)
      (fun (_ : List (Value × Value)) (z : Value × Value) (a' : Act) (A : World) => a' = { tmps := #[.pointer (some ⟨q1, 0, none⟩), .pointer (some ⟨q2, 0, none⟩), undef, undef, .pointer (some ⟨w.heap.size, 0, none⟩), .pointer (some ⟨w.heap.size + 1, 0, none⟩), .nilIface, .pointer (some ⟨w2.heap.size, 0, none⟩), z.1, z.2, undef, .pointer (some ⟨q1, 0, none⟩), .pointer (some ⟨q2, 0, none⟩), .nilIface, .nilIface, .bool false, undef, .pointer (some ⟨w1.heap.size, 0, none⟩), .pointer (some ⟨q1, 0, none⟩), .pointer (some ⟨q2, 0, none⟩), .func (.func 67) #[] #[.pointer (some ⟨x, 0, none⟩), .pointer (some ⟨y, 0, none⟩)], z.1, z.2, undef, undef, undef, undef, undef, undef, undef, undef, undef], defers := [] }) (fun _ _ _ _ _ h _ => h) ?assign ?body ?done ?stop
    case assign =>
      intro l2 C pre z W4 K _ _ hK
      gi_wp2
      exact hK _ _ (Below.refl _ _) rfl
    case body =>
      rintro l2 C pre z a' A hl1 hl2 hC2 hCs hrec hin hG rfl
      obtain ⟨g0, g1, g2, g3⟩ := hG
      obtain ⟨p, q⟩ := z
      have cb : A.cell? ⟨w2.heap.size, 0, none⟩ = some (.pointer (some ⟨w1.heap.size, 0, none⟩)) := by rw [cell_of_heap hin.b]; rfl
      have r1 := it_rst H2.out.e H2.out.f (by have := H2.out.t; omega) (by have := H2.out.n; omega) pre.length
      have r2 := out_good r1.1 r1.2 (by have := H2.out.t; omega) (by have := H2.out.n; omega)
      have hrun : Run7 E F (pre.length + 1) := fun j hj => by
        rcases Nat.lt_or_ge j pre.length with h | h
        · exact g1 j h
        · obtain rfl : j = pre.length := by omega
          exact g0
      have cP := push10_any _ _ p q A HS.out.2 (HS.out.1 A hin.below) g2 g3 (out_doc10 H2.out.e H2.out.f (by have := H2.out.t; omega) (by have := H2.out.n; omega) HX.out.1 HX.out.2.1 g1 g0) (K := K) r2.1 r2.2 H2.out.k hin.ga.far (gat_okE H2.out.e H2.out.f H2.out.t H2.out.n H2.out.k HX.out.1 HX.out.2.1 HX.out.2.2 hrun) (fun k hk => hk.elim (fun h => Nat.lt_of_lt_of_le h.2 hCs) Far10.lt)
      have HI : Hid (In10 w w4.heap.size w1.heap.size w2.heap.size w.heap.size (w.heap.size + 1) E F C pre A) := hin
      clear hin g0 g1 g2 g3 r1 r2 hrun hrec
      gi_wp2
      refine ⟨trivial, (CallsIn.inRound l2 (callsIn_wide.2 cP)).mono ?_⟩
      rintro r A' ⟨rfl, hg, hf⟩
      have HO := HI.out.push (x := (p, q)) hg hf
      have HOO : Hid _ := HO
      clear cP hg hf cb HO
      gi_wp2
      exact HOO.out
    case stop => intro D C c pre W _ _ _ h; exact h.elim
    case done =>
      rintro D C xs' A hD1 hD2 hCs ⟨hr, h01, h02⟩ hin hK
      have cb : A.cell? ⟨w2.heap.size, 0, none⟩ = some (.pointer (some ⟨w1.heap.size, 0, none⟩)) := by rw [cell_of_heap hin.b]; rfl
      have cD := delta_any A hin.ga (gat_okE H2.out.e H2.out.f H2.out.t H2.out.n H2.out.k HX.out.1 HX.out.2.1 HX.out.2.2 hr)
      rw [gat_end H2.out.e H2.out.f (by have := H2.out.t; omega) (by have := H2.out.n; omega) HX.out.1 HX.out.2.1 hr ⟨h01, h02⟩] at cD
      have HA : Hid (A.heap[w.heap.size]? = some (.cells #[.pointer none] 36 (0, 0)) ∧ A.heap[w.heap.size + 1]? = some (.cells #[.nilIface] 40 (0, 0)) ∧ Below w.heap.size w A ∧ A.heap[D]? = some (.deferred (some [])) ∧ w4.heap.size ≤ D) := ⟨hin.r, hin.e, hin.below, hK, hD1⟩
      clear hr h01 h02 hin hK hD2 hCs
      gi_wp2
      go_wp2_with fail
      refine cD.mono ?_; rintro r w9 ⟨dv, rfl, hdv, hb9⟩
      obtain ⟨qd, rfl⟩ : ∃ qd, dv = .pointer (some ⟨qd, 0, none⟩) := by obtain ⟨q, _, _, e, _⟩ := hdv; exact ⟨q, e⟩
      obtain ⟨k4, k5, kb, kD, kM⟩ := HA.out
      have m4 := heap_below hb9 k4
      have m5 := heap_below hb9 k5
      have mD := heap_below hb9 kD
      have c4 : w9.cell? ⟨w.heap.size, 0, none⟩ = some (.pointer none) := by rw [cell_of_heap m4]; rfl
      have c5 : w9.cell? ⟨w.heap.size + 1, 0, none⟩ = some .nilIface := by rw [cell_of_heap m5]; rfl
      have f4 := frozen_of_heap m4 0
      have f5 := frozen_of_heap m5 0
      have HF : Hid (DelV w9 w.heap.size w.heap.size (.pointer (some ⟨qd, 0, none⟩)) (docOf xs) ∧ w9.heap[w.heap.size]? = some (.cells #[.pointer none] 36 (0, 0)) ∧ w9.heap[w.heap.size + 1]? = some (.cells #[.nilIface] 40 (0, 0)) ∧ w9.heap[D]? = some (.deferred (some [])) ∧ Below w.heap.size w w9 ∧ w.heap.size + 1 < D) := ⟨delV_low hdv kb.size (Nat.le_refl _), m4, m5, mD, kb.trans (hb9.mono kb.size), by have := HM.out; omega⟩
      clear cD hdv hb9 HA k4 k5 kb kD kM m4 m5 mD cb
      go_wp2
      obtain ⟨j1, j2, j3, j4, j5, j6⟩ := HF.out
      have s1 := keep_set10 j2 (by decide) 0 (.pointer (some ⟨qd, 0, none⟩))
      have n3 : (w9.setCell ⟨w.heap.size, 0, none⟩ (.pointer (some ⟨qd, 0, none⟩))).heap[w.heap.size + 1]? = some (.cells #[.nilIface] 40 (0, 0)) := (Below.heap_setCell _ _ _ _ (by show w.heap.size + 1 ≠ w.heap.size; omega)).trans j3
      have s2 := keep_set10 n3 (by decide) 0 .nilIface
      have nD : ((w9.setCell ⟨w.heap.size, 0, none⟩ (.pointer (some ⟨qd, 0, none⟩))).setCell ⟨w.heap.size + 1, 0, none⟩ .nilIface).heap[D]? = some (.deferred (some [])) := (Below.heap_setCell _ _ _ _ (by show D ≠ w.heap.size + 1; omega)).trans ((Below.heap_setCell _ _ _ _ (by show D ≠ w.heap.size; omega)).trans j4)
      have e4 : ((w9.setCell ⟨w.heap.size, 0, none⟩ (.pointer (some ⟨qd, 0, none⟩))).setCell ⟨w.heap.size + 1, 0, none⟩ .nilIface).cell? ⟨w.heap.size, 0, none⟩ = some (.pointer (some ⟨qd, 0, none⟩)) := by
        rw [cell_of_heap ((Below.heap_setCell _ _ _ _ (by show w.heap.size ≠ w.heap.size + 1; omega)).trans (heap_set_at w9 w.heap.size 0 _ _ _ _ j2))]; rfl
      have e5 : ((w9.setCell ⟨w.heap.size, 0, none⟩ (.pointer (some ⟨qd, 0, none⟩))).setCell ⟨w.heap.size + 1, 0, none⟩ .nilIface).cell? ⟨w.heap.size + 1, 0, none⟩ = some .nilIface := by
        rw [cell_of_heap (heap_set_at _ (w.heap.size + 1) 0 _ _ _ _ n3)]; rfl
      refine apply_leave _ D w.heap.size (w.heap.size + 1) _ (.pointer (some ⟨qd, 0, none⟩)) rfl rfl nD e4 e5 (by omega) (by omega) ⟨fun xs' hx' => ?_, ?_⟩
      · obtain rfl : xs' = xs := Option.some.inj (hx'.symm.trans HX.out.2.1)
        exact ((j1.keepT s1).keepT s2).keepT (keep_put10 nD rfl)
      · exact Tr7.below_put10 ((j5.setCell (p := ⟨w.heap.size, 0, none⟩) (Nat.le_refl _) _).setCell (p := ⟨w.heap.size + 1, 0, none⟩) (Nat.le_succ _) _) nD (by omega)
end Go.Proofs.YtplnojapnaaakaaGreatDoor
