/- build: Push: one operation gathered, or refused. build: Push: one operation gathered, or refused. build: Delta and New: what a builder answers. build: Delta: what a builder answers. build: Of and Empty: the delta of a list of operations. A delta gone through in pieces, purely. A loop over a function whose function writes memory of its own between two rounds, and asks for rounds at what it has laid. Where a piece of a text ends. What the methods Op of api.Insert and api.Embed answer. What the methods Op of pieces answer. -/
import Derived.Test.YtplnojapnaaakaaGreatDoorPMgb
import Derived.Test.YtplnojapnaaakaaGreatDoorPMga
import Derived.Deep.RegionHeld3
import Derived.Deep.DeepCutAuto
import Derived.Lib.SliceRun
import Derived.RangeFuncNested
import Derived.RangeFuncBound
import Derived.RangeFuncCalls
import Derived.RangeFuncLeaves
import Derived.Test.YtplnojapnaaakaaGreatDoorPLe
import Derived.Test.YtplnojapnaaakaaGreatDoorPCq

/- build: Push: one operation gathered, or refused. -/
namespace Go.Proofs.YtplnojapnaaakaaGreatDoor
open Go Go.RowKit Go.Lib
set_option linter.unusedVariables false
/-- Operations that may be gathered, not too great. -/
structure OkE (E : List Op5) : Prop where
  good : ∀ o ∈ E, opE o = 0
  fit : ∀ o ∈ E, FitA o
  txt : txtS E ≤ 8388608
  len : E.length ≤ 4194304
  base : sumB E ≤ 1099511627776
  res : sumR E ≤ 1099511627776
theorem OkE.nil : OkE [] := ⟨fun o h => (by cases h), fun o h => (by cases h), by simp [txtS], by simp, by simp [sumB], by simp [sumR]⟩
theorem OkE.wel {E : List Op5} (h : OkE E) : ∀ o ∈ E, Wel o := fun o ho => wel_of (h.good o ho)
theorem baseU_append (U V : List U6) : baseU (U ++ V) = baseU U + baseU V := by unfold baseU; rw [List.countP_append]
theorem sum_push {P : List Op5} {o : Op5} {Q : Int → Prop} (h : Chn P Q) (ho : Wel o) (hP : ∀ k, Q k → k = 4 → o.k = 3 ∨ o.k = 4) : sumB (pushL P o) = sumB P + baseO o := by
  obtain ⟨p1, p2⟩ := push_chn h ho hP
  rw [sumB_units p1.wel, sumB_units h.wel, base_units ho, p2, baseU_append]
  omega
theorem sumB_append (E F : List Op5) : sumB (E ++ F) = sumB E + sumB F := by unfold sumB; rw [List.map_append, List.sum_append]
theorem sumR_append (E F : List Op5) : sumR (E ++ F) = sumR E + sumR F := by unfold sumR; rw [List.map_append, List.sum_append]
theorem sumB_one (o : Op5) : sumB [o] = baseO o := by simp [sumB]
theorem sumR_one (o : Op5) : sumR [o] = resO o := by simp [sumR]
theorem base_3 {o : Op5} (h : o.k = 3 ∨ o.k = 4) : baseO o = o.c := by unfold baseO len5; rw [if_pos h, if_neg (by omega)]
theorem base_1 {o : Op5} (h : o.k = 1 ∨ o.k = 2) : baseO o = 0 := by unfold baseO; rw [if_neg (by omega)]
theorem sum_st {s : List Op5 × Int} {o : Op5} (h : BSt s) (ho : Wel o) : sumB (stB s o).1 + (stB s o).2 = sumB s.1 + s.2 + baseO o := by
  unfold stB
  rcases ho.kinds with hk | hk | hk | hk
  · rw [if_neg (by omega), if_neg (by omega)]
    have := sum_push h.chn ho (fun k h4 e => absurd e h4)
    simp only; omega
  · rw [if_neg (by omega), if_neg (by omega)]
    have := sum_push h.chn ho (fun k h4 e => absurd e h4)
    simp only; omega
  · rw [if_neg (by omega), if_pos hk]
    have h1 := sum_push (setB_chn h).1 ho (fun k _ _ => Or.inl hk)
    have h2 : sumB (setB s) = sumB s.1 + s.2 := by
      unfold setB
      have := h.gone
      split
      · rw [sumB_append, sumB_one, base_3 (o := delO s.2) (Or.inr rfl)]; rfl
      · omega
    simp only; omega
  · rw [if_pos hk, base_3 (Or.inr hk)]
    simp only; omega
theorem sum_run : ∀ (E : List Op5) {s : List Op5 × Int}, BSt s → (∀ o ∈ E, Wel o) → sumB (E.foldl stB s).1 + (E.foldl stB s).2 = sumB s.1 + s.2 + sumB E
  | [], s, _, _ => by simp [sumB]
  | o :: r, s, h, hE => by
    have ho := hE o (List.mem_cons_self ..)
    have h1 := sum_run r (stB_st h ho) (fun x hx => hE x (List.mem_cons_of_mem _ hx))
    have h2 := sum_st h ho
    have h3 : sumB (o :: r) = baseO o + sumB r := by simp [sumB]
    show sumB (r.foldl stB (stB s o)).1 + (r.foldl stB (stB s o)).2 = _
    omega
theorem cnt_le {P : List Op5} (h : ∀ x ∈ P, Wel x) {x : Op5} (hx : x ∈ P) : x.c ≤ sumB P ∨ x.c = 0 := by
  rcases (h x hx).kinds with hk | hk | hk | hk
  · right
    exact ((h x hx).resolve_right (by rintro (⟨a, _⟩ | ⟨a, _⟩) <;> omega)).1.count
  · right
    exact ((h x hx).resolve_right (by rintro (⟨a, _⟩ | ⟨a, _⟩) <;> omega)).1.count
  · left; have := (mem_sums h hx).1; rw [base_3 (Or.inl hk)] at this; exact this
  · left; have := (mem_sums h hx).1; rw [base_3 (Or.inr hk)] at this; exact this
/-- What is known of what the builder has gathered. -/
theorem okE_run {E : List Op5} (h : OkE E) : BSt (bldR E) ∧ OkP (bldR E).1 ∧ OkP (setB (bldR E)) ∧ 0 ≤ (bldR E).2 ∧ (bldR E).2 ≤ 1099511627776 := by
  have hs : BSt (bldR E) := bldR_st BSt.nil h.wel
  have hz : BSz (bldR E) E.length (txtS E) := by
    have := bldR_sz E BSz.nil h.fit
    rw [Nat.zero_add, Nat.zero_add] at this
    exact this
  have hsum : sumB (bldR E).1 + (bldR E).2 = sumB E := by
    have := sum_run E BSt.nil h.wel
    have e : sumB (([], 0) : List Op5 × Int).1 + (([], 0) : List Op5 × Int).2 = 0 := by simp [sumB]
    rw [e] at this
    have e2 : bldR E = E.foldl stB ([], 0) := rfl
    rw [e2]; omega
  have hnn := (sums_nn hs.chn.wel).1
  have hb := h.base
  have h0 := hs.gone
  have h1 := hz.len
  have h2 := hz.txt
  have h3 := h.len
  have h4 := h.txt
  refine ⟨hs, ⟨hs.chn.wel, fun x hx => by have := (hz.fit x hx).n; omega, by omega, by omega, fun x hx => by have := cnt_le hs.chn.wel hx; omega⟩, ?_, h0, by omega⟩
  obtain ⟨a, b, c⟩ := hz.set
  have w := (setB_chn hs).1.wel
  have hsb : sumB (setB (bldR E)) = sumB E := by
    unfold setB
    split
    · rw [sumB_append, sumB_one, base_3 (o := delO (bldR E).2) (Or.inr rfl)]
      show sumB (bldR E).1 + (bldR E).2 = _
      exact hsum
    · omega
  exact ⟨w, fun x hx => by have := (a x hx).n; omega, by omega, by omega, fun x hx => by have := cnt_le w hx; omega⟩

/-- A builder in memory that has gathered these operations. -/
def Gath (w : World) (B : Nat) (D : Nat → Prop) (g : Nat) (E : List Op5) : Prop := BldE w B D g (sumB E) (sumR E) (bldR E).1 (bldR E).2
theorem BldE.sb {w : World} {B g : Nat} {D : Nat → Prop} {b r : Int} {P : List Op5} {d : Int} (h : BldE w B D g b r P d) : ∃ pv PL l, SbE w B g (.int .i64 b) (.int .i64 r) pv (.int .i64 d) l ∧ ¬ D g ∧ w.ownsRow B 56 1 pv PL.length PL ∧ (∀ k, pv.ownBlock = some k → ¬ D k) ∧ PieD w B PL P ∧ (l = [] ∨ ∃ F x, P = F ++ [x] ∧ x.k = 1 ∧ l = x.t.data.toList) := by
  obtain ⟨pv, PL, l, h⟩ := h
  exact ⟨pv, PL, l, h.sb, h.nd, h.row, h.rnd, h.pie, h.txt⟩
/-- The lengths grow, the pieces stand. -/
theorem bld_grow {w w' : World} {B g : Nat} {D : Nat → Prop} {b r b' r' : Int} {P : List Op5} {d : Int} {pv : Value} {PL : List Value} {l : List UInt8} (h : Bld w B D g b r P d pv PL l) (f : FrB B (fun k => k ≠ g) w w') (hs : SbE w' B g (.int .i64 b') (.int .i64 r') pv (.int .i64 d) l) : BldE w' B D g b' r' P d := by
  obtain ⟨_, _, _, _, _, _, cs, hk⟩ := h.sb.cells
  exact ⟨pv, PL, l, hs, h.nd, f.rowI h.row hk, h.rnd, h.pie.keep f.keepA, h.txt⟩
theorem res_1 {o : Op5} (h : o.k = 1) : resO o = ((scs o.t.data.toList).length : Int) := by unfold resO len5 lenO; rw [if_neg (by omega), if_pos (Or.inl h), if_pos h]
theorem res_2 {o : Op5} (h : o.k = 2) : resO o = 1 := by unfold resO len5 lenO; rw [if_neg (by omega), if_pos (Or.inr h), if_neg (by omega)]; rfl
theorem res_3 {o : Op5} (h : o.k = 3) : resO o = o.c := by unfold resO len5; rw [if_neg (by omega), if_neg (by omega)]
theorem res_4 {o : Op5} (h : o.k = 4) : resO o = 0 := by unfold resO; rw [if_pos h]
theorem grow_ok {B g : Nat} {c2 c3 : Value} {l : List UInt8} (o : Op5) (sv : Value) (b r : Int) (w : World) (hg : opE o = 0) (hf : Fit o) (h : SbE w B g (.int .i64 b) (.int .i64 r) c2 c3 l) (hb : 0 ≤ b ∧ b ≤ 1099511627776) (hr : 0 ≤ r ∧ r ≤ 1099511627776) (hB : B ≤ w.heap.size) (hob : b + baseO o ≤ 1099511627776) (hor : r + resO o ≤ 1099511627776) :
    Calls Tryz.prog 75 #[.pointer (some ⟨g, 0, none⟩), pieceQ o sv] w fun e w' => e = .returned .nilIface ∧ SbE w' B g (.int .i64 (b + baseO o)) (.int .i64 (r + resO o)) c2 c3 l ∧ FrB B (fun k => k ≠ g) w w' := by
  have hb1 := base_range hg hf
  have hr1 := res_range hg hf
  rcases kinds_of hg with hk | hk | hk | hk
  · rw [base_1 (Or.inl hk), Int.add_zero] at hob ⊢
    rw [res_1 hk] at hor hr1 ⊢
    rw [pieceQ_1 hk]
    exact grow1_ok sv o.t _ hr1 b r w h hb hr hB hob hor
  · rw [base_1 (Or.inr hk), Int.add_zero] at hob ⊢
    rw [res_2 hk] at hor hr1 ⊢
    rw [pieceQ_2 hk]
    exact grow2_ok sv o.t _ b r w h hb hr hB hob hor
  · rw [base_3 (Or.inl hk)] at hob hb1 ⊢
    rw [res_3 hk] at hor hr1 ⊢
    rw [pieceQ_3 hk]
    exact grow3_ok sv _ hb1 b r w h hb hr hB hob hor
  · rw [base_3 (Or.inr hk)] at hob hb1 ⊢
    rw [res_4 hk, Int.add_zero] at hor ⊢
    rw [pieceQ_4 hk]
    exact grow4_ok _ hb1 b r w h hb hr hB hob hor
theorem grow_no {B g : Nat} {c2 c3 : Value} {l : List UInt8} (o : Op5) (sv : Value) (b r : Int) (w : World) (hg : opE o = 0) (hf : Fit o) (h : SbE w B g (.int .i64 b) (.int .i64 r) c2 c3 l) (hb : 0 ≤ b ∧ b ≤ 1099511627776) (hr : 0 ≤ r ∧ r ≤ 1099511627776) (hB : B ≤ w.heap.size) (e0 : Value) (gL : ∀ W, Below w.heap.size w W → W.cell? ⟨12, 0, none⟩ = some e0) (hov : 1099511627776 < b + baseO o ∨ 1099511627776 < r + resO o) :
    Calls Tryz.prog 75 #[.pointer (some ⟨g, 0, none⟩), pieceQ o sv] w fun e w' => e = .returned e0 ∧ Below w.heap.size w w' := by
  have hb1 := base_range hg hf
  have hr1 := res_range hg hf
  rcases kinds_of hg with hk | hk | hk | hk
  · rw [base_1 (Or.inl hk), Int.add_zero] at hov
    rw [res_1 hk] at hov hr1
    rw [pieceQ_1 hk]
    exact grow1_o2 sv o.t _ hr1 b r w h hb hr hB e0 gL hb.2 (by omega)
  · rw [base_1 (Or.inr hk), Int.add_zero] at hov
    rw [res_2 hk] at hov hr1
    rw [pieceQ_2 hk]
    exact grow2_o2 sv o.t _ b r w h hb hr hB e0 gL hb.2 (by omega)
  · rw [base_3 (Or.inl hk)] at hov hb1
    rw [res_3 hk] at hov hr1
    rw [pieceQ_3 hk]
    by_cases h1 : 1099511627776 < b + o.c
    · exact grow3_o1 sv _ hb1 b r w h hb hr hB e0 gL h1
    · exact grow3_o2 sv _ hb1 b r w h hb hr hB e0 gL (by omega) (by omega)
  · rw [base_3 (Or.inr hk)] at hov hb1
    rw [res_4 hk, Int.add_zero] at hov
    rw [pieceQ_4 hk]
    exact grow4_o1 _ hb1 b r w h hb hr hB e0 gL (by omega)
end Go.Proofs.YtplnojapnaaakaaGreatDoor

/- build: Push: one operation gathered, or refused. -/
namespace Go.Proofs.YtplnojapnaaakaaGreatDoor
open Go Go.RowKit Go.Lib
set_option linter.unusedVariables false
theorem bad_one (o : Op5) : badP [o] = (0, opE o) := by
  by_cases h : opE o = 0
  · rw [h]; exact bad_none (by intro x hx; rw [List.mem_singleton.1 hx]; exact h)
  · exact bad_at (k := 0) rfl (by intro x hx; simp at hx) h
/-- A slice of one operation. -/
theorem re_one {w : World} {b : Nat} {o : Op5} {p : Option Addr} {l c : Nat} (h : OpAt w b 0 (o.k, o.t, o.v, o.c, (p, l, c))) (hR : RN w (.slice p l c) o.A) : ReO w (.slice (some ⟨b, 0, none⟩) 1 1) [o] :=
  ⟨[(o.k, o.t, o.v, o.c, (p, l, c))], ⟨some ⟨b, 0, none⟩, 1, rfl, Nat.le_refl _, fun h => (by cases h), fun j d hd => by
    cases j with
    | zero => simp only [List.getElem?_cons_zero, Option.some.injEq] at hd; subst hd; exact ⟨b, 0, rfl, by simpa using h⟩
    | succ j => simp at hd⟩, .cons ⟨rfl, rfl, rfl, rfl, hR⟩ .nil⟩
/-- Push's first call. -/
theorem push_of {I : List Nat} {a : Nat → Addr} (o : Op5) (p : Option Addr) (l c : Nat) (w : World) (hI : ∀ i ∈ IxO, i ∈ I) (hS : Std I a w) (hR : RN w (.slice p l c) o.A) (hF : Fit o) :
    Calls Tryz.prog 74 #[.slice (some ⟨w.heap.size + 1, 0, none⟩) 1 1] ((w.alloc (.cells (opC o (.slice p l c)) 33)).alloc (.cells (opC o (.slice p l c)) 33)) fun r w' => ∃ v', r = .returned (.tuple #[v', .int .i64 0, errOf a (opE o)]) ∧ (opE o = 0 → ∃ s ap cp, v' = .slice (some ⟨ap, 0, none⟩) 1 cp ∧ w'.cell? ⟨ap, 0, none⟩ = some (pieceQ o s) ∧ OwnA w' w.heap.size s o.A ∧ ∃ cs, w'.heap[ap]? = some (.cells cs 56 (0, 0)) ∧ w.heap.size ≤ ap) ∧ (opE o ≠ 0 → v' = .slice none 0 0) ∧ Below w.heap.size w w' := by
  have b0 : Below w.heap.size w (w.alloc (.cells (opC o (.slice p l c)) 33)) := (Below.refl _ _).alloc (Nat.le_refl _) _
  have b1 : Below w.heap.size w ((w.alloc (.cells (opC o (.slice p l c)) 33)).alloc (.cells (opC o (.slice p l c)) 33)) := b0.alloc b0.size _
  have hat : OpAt ((w.alloc (.cells (opC o (.slice p l c)) 33)).alloc (.cells (opC o (.slice p l c)) 33)) (w.heap.size + 1) 0 (o.k, o.t, o.v, o.c, (p, l, c)) := by
    refine ⟨?_, ?_, ?_, ?_, ?_, ?_, ?_⟩ <;> simp [opC]
  refine (of_any _ [o] _ hI (hS.below b1) (re_one hat (hR.below b1)) (by intro x hx; rw [List.mem_singleton.1 hx]; exact hF) (by simp)).mono ?_
  rintro r w' ⟨v', rfl, h1, h2, hb⟩
  have hbw : Below w.heap.size w w' := b1.trans (hb.mono b1.size)
  rw [bad_one] at h1 h2 ⊢
  refine ⟨v', rfl, fun h0 => ?_, h2, hbw⟩
  obtain ⟨P, hP, hD⟩ := h1 h0
  cases hD with
  | cons hx hr =>
    cases hr
    obtain ⟨s, rfl, hs⟩ := hx
    obtain ⟨ap, cp, x, e1, e2, e3, e4⟩ := own_cell hP 0 (by simp)
    have e3' : x = pieceQ o s := by simpa using e3.symm
    rw [e3'] at e4
    have ob := owns_block hP ap (by rw [e1]; rfl)
    obtain ⟨_, cs, hcs⟩ := ob
    exact ⟨s, ap, cp, e1, e4, own_weaken hs b1.size, cs, hcs, Nat.le_trans b1.size e2⟩
set_option maxHeartbeats 2000000 in
set_option maxRecDepth 100000 in
theorem pushB_no {I : List Nat} {a : Nat → Addr} (g : Nat) (o : Op5) (p : Option Addr) (l c : Nat) (w : World) (hI : ∀ i ∈ IxO, i ∈ I) (hS : Std I a w) (hR : RN w (.slice p l c) o.A) (hF : Fit o) (e : Nat) (he : opE o = e + 1) :
    Calls Tryz.prog 29 #[.pointer (some ⟨g, 0, none⟩), opV o (.slice p l c)] w fun r w' => r = .returned (errV a e) ∧ Below w.heap.size w w' := by
  have c1 := push_of o p l c w hI hS hR hF
  rw [he, errOf_succ] at c1
  obtain ⟨k, t, ⟨x, n, u⟩, cc, A⟩ := o
  simp only [opC] at c1
  clear hS hR hF he
  go_enter Tryz.func29, Tryz.ntmps29
  go_wp2_with fail
  refine c1.mono ?_; rintro r w2 ⟨v', rfl, _, hv, hb2⟩
  obtain rfl := hv (by omega)
  clear c1 hv
  go_wp2
  go_ret
  exact ⟨rfl, hb2⟩
set_option maxHeartbeats 2000000 in
set_option maxRecDepth 100000 in
theorem pushB_long {I : List Nat} {a : Nat → Addr} {B g : Nat} {D : Nat → Prop} {E : List Op5} (o : Op5) (p : Option Addr) (l c : Nat) (w : World) (hI : ∀ i ∈ IxO, i ∈ I) (hS : Std I a w) (hR : RN w (.slice p l c) o.A) (hF : Fit o) (hg : opE o = 0) (h : Gath w B D g E) (hE : OkE E) (hov : 1099511627776 < sumB E + baseO o ∨ 1099511627776 < sumR E + resO o) :
    Calls Tryz.prog 29 #[.pointer (some ⟨g, 0, none⟩), opV o (.slice p l c)] w fun r w' => r = .returned (errV a 10) ∧ Below w.heap.size w w' := by
  have c1 := push_of o p l c w hI hS hR hF
  rw [hg, errOf_zero] at c1
  have hnn := sums_nn hE.wel
  have hB : B ≤ w.heap.size := by have := BldE.lo h; omega
  have CG : Hid (∀ W s, Below w.heap.size w W → Calls Tryz.prog 75 #[.pointer (some ⟨g, 0, none⟩), pieceQ o s] W fun e w' => e = .returned (errV a 10) ∧ Below W.heap.size W w') := fun W s hW => by
    obtain ⟨pv, PL, l, hsb, _⟩ := BldE.sb (BldE.below h hW)
    exact grow_no o s _ _ W hg hF hsb ⟨hnn.1, hE.base⟩ ⟨hnn.2, hE.res⟩ (Nat.le_trans hB hW.size) _ (fun W' hW' => (hS.below (hW.trans (hW'.mono hW.size))).er.cell 10 (hI 10 (by simp))) hov
  have hq := pieceQ_if o
  obtain ⟨PQ, hPQ⟩ : ∃ f : Value → Value, pieceQ o = f := ⟨_, rfl⟩
  have c1' : Calls Tryz.prog 74 #[.slice (some ⟨w.heap.size + 1, 0, none⟩) 1 1] ((w.alloc (.cells (opC o (.slice p l c)) 33)).alloc (.cells (opC o (.slice p l c)) 33)) fun r w' => ∃ v', r = .returned (.tuple #[v', .int .i64 0, .nilIface]) ∧ (∃ s ap cp, v' = .slice (some ⟨ap, 0, none⟩) 1 cp ∧ w'.cell? ⟨ap, 0, none⟩ = some (PQ s)) ∧ Below w.heap.size w w' := c1.mono (by
    rintro r w' ⟨v', e1, e2, _, e4⟩
    obtain ⟨s, ap, cp, f1, f2, _⟩ := e2 rfl
    exact ⟨v', e1, ⟨s, ap, cp, f1, hPQ ▸ f2⟩, e4⟩)
  have hq' : ∀ s, ∃ u x, PQ s = .iface u x := fun s => hPQ ▸ hq s
  have CG' : Hid (∀ W s, Below w.heap.size w W → Calls Tryz.prog 75 #[.pointer (some ⟨g, 0, none⟩), PQ s] W fun e w' => e = .returned (errV a 10) ∧ Below W.heap.size W w') := hPQ ▸ CG
  obtain ⟨k, t, ⟨x, n, u⟩, cc, A⟩ := o
  simp only [opC] at c1'
  clear hS hR hF hg h hE hov hnn hB c1 CG hq hPQ
  go_enter Tryz.func29, Tryz.ntmps29
  go_wp2_with fail
  refine c1'.mono ?_; rintro r w2 ⟨v', rfl, ⟨s, ap, cp, rfl, hc⟩, hb2⟩
  obtain ⟨uu, xx, hux⟩ := hq' s
  have cg := CG'.out w2.drew s hb2.drew
  rw [hux] at hc cg
  have hc' : w2.drew.cell? ⟨ap, 0, none⟩ = some (.iface uu xx) := hc
  clear c1' CG' hq' hux
  go_wp2_with fail
  go_region_held3 (fun w' => w'.cell? ⟨ap, 0, none⟩ = some (.iface uu xx) ∧ Below w.heap.size w w')
    (exact ⟨by first | (with_reducible assumption), by first | (with_reducible assumption) | exact hb2.drew⟩)
    (first | (go_at_call 75; refine cg.mono ?_; rintro r w5 ⟨rfl, hb5⟩; have hc5 := (hb5.cell (lt_of_cell hc')).trans hc'; have b5 : Below w.heap.size w w5 := hb2.drew.trans (hb5.mono hb2.size)))
  go_wp2
  go_ret
  exact ⟨rfl, b5⟩
set_option maxHeartbeats 4000000 in
set_option maxRecDepth 100000 in
theorem pushB_ok {I : List Nat} {a : Nat → Addr} {B g : Nat} {D : Nat → Prop} {E : List Op5} (o : Op5) (p : Option Addr) (l c : Nat) (w : World) (hI : ∀ i ∈ IxO, i ∈ I) (hS : Std I a w) (hR : RN w (.slice p l c) o.A) (hF : Fit o) (h : Gath w B D g E) (hE : OkE (E ++ [o])) (hD : ∀ k, D k → k < w.heap.size) :
    Calls Tryz.prog 29 #[.pointer (some ⟨g, 0, none⟩), opV o (.slice p l c)] w fun r w' => r = .returned .nilIface ∧ Gath w' B D g (E ++ [o]) ∧ FrB B D w w' := by
  have hg : opE o = 0 := hE.good o (List.mem_append_right _ (List.mem_singleton.2 rfl))
  have hE0 : OkE E := by
    have h1 := hE.txt
    have h2 := hE.len
    have h3 := hE.base
    have h4 := hE.res
    have w1 := base_range hg hF
    have w2 := res_range hg hF
    rw [txtS_append] at h1
    rw [List.length_append] at h2
    rw [sumB_append, sumB_one] at h3
    rw [sumR_append, sumR_one] at h4
    exact ⟨fun x hx => hE.good x (List.mem_append_left _ hx), fun x hx => hE.fit x (List.mem_append_left _ hx), by omega, by omega, by omega, by omega⟩
  have c1 := push_of o p l c w hI hS hR hF
  rw [hg, errOf_zero] at c1
  have hnn := sums_nn hE0.wel
  have hB : B ≤ w.heap.size := by have := BldE.lo h; omega
  have hob : sumB E + baseO o ≤ 1099511627776 := by have := hE.base; rw [sumB_append, sumB_one] at this; exact this
  have hor : sumR E + resO o ≤ 1099511627776 := by have := hE.res; rw [sumR_append, sumR_one] at this; exact this
  have hwo := wel_of hg
  have hco : o.c ≤ 1099511627776 := by
    rcases hwo.kinds with hk | hk | hk | hk
    · have := (hwo.resolve_right (by rintro (⟨a, _⟩ | ⟨a, _⟩) <;> omega)).1.count; omega
    · have := (hwo.resolve_right (by rintro (⟨a, _⟩ | ⟨a, _⟩) <;> omega)).1.count; omega
    · have := base_3 (o := o) (Or.inl hk); omega
    · have := base_3 (o := o) (Or.inr hk); omega
  obtain ⟨r1, r2, r3, r4, r5⟩ := okE_run hE0
  -- grow, from a world that stands as w did
  have CG : Hid (∀ W s ap cs, Below w.heap.size w W → w.heap.size ≤ ap → W.heap[ap]? = some (.cells cs 56 (0, 0)) → OwnA W w.heap.size s o.A → Calls Tryz.prog 75 #[.pointer (some ⟨g, 0, none⟩), pieceQ o s] W fun e w' => e = .returned .nilIface ∧ (BldE w' B D g (sumB (E ++ [o])) (sumR (E ++ [o])) (bldR E).1 (bldR E).2 ∧ OwnA w' B s o.A ∧ FrB B D w w' ∧ w.heap.size ≤ w'.heap.size) ∧ w'.heap[ap]? = W.heap[ap]?) := fun W s ap cs hW hap hcs hs => by
    obtain ⟨pv, PL, l, hb⟩ := BldE.below h hW
    rw [sumB_append, sumB_one, sumR_append, sumR_one]
    refine (grow_ok o s _ _ W hg hF hb.sb ⟨hnn.1, hE0.base⟩ ⟨hnn.2, hE0.res⟩ (Nat.le_trans hB hW.size) hob hor).mono ?_
    rintro e w' ⟨rfl, e2, e3⟩
    refine ⟨rfl, ⟨bld_grow hb e3 e2, keepA_own (own_weaken hs hB) e3.keepA, (FrB.of_below hW hB).trans (e3.mono fun k hk e => hb.nd (e ▸ hk)), Nat.le_trans hW.size e3.below.size⟩, ?_⟩
    have hgl := BldE.lo h
    rw [hcs]
    exact e3.kept ap _ hcs (by omega) (fun c fz e => by simp only [Obj.cells.injEq] at e; exact absurd e.2.1 (by decide))
  have CA : Hid (∀ W s, BldE W B D g (sumB (E ++ [o])) (sumR (E ++ [o])) (bldR E).1 (bldR E).2 → OwnA W B s o.A → FrB B D w W → w.heap.size ≤ W.heap.size → Calls Tryz.prog 76 #[.pointer (some ⟨g, 0, none⟩), pieceQ o s] W fun e w' => e = .returned (.tuple #[]) ∧ Gath w' B D g (E ++ [o]) ∧ FrB B D w w') := fun W s h1 h2 h3 h4 => by
    refine (gather_any (s := bldR E) o s W h1 h2 (fun k hk => Nat.lt_of_lt_of_le (hD k hk) h4) r2 r3 hwo (by have := hF.n; omega) hF.t hco r1 r5).mono ?_
    rintro e w' ⟨rfl, e2, e3⟩
    refine ⟨rfl, ?_, h3.trans e3⟩
    unfold Gath
    rw [bldR_snoc]
    exact e2
  have hq := pieceQ_if o
  obtain ⟨PQ, hPQ⟩ : ∃ f : Value → Value, pieceQ o = f := ⟨_, rfl⟩
  rw [hPQ] at CG CA c1 hq
  have hR1 : RowA w (.slice p l c) o.A := hR.row
  obtain ⟨KK, hKK⟩ : ∃ K : Value → World → Prop, (fun s w' => BldE w' B D g (sumB (E ++ [o])) (sumR (E ++ [o])) (bldR E).1 (bldR E).2 ∧ OwnA w' B s o.A ∧ FrB B D w w' ∧ w.heap.size ≤ w'.heap.size) = K := ⟨_, rfl⟩
  have CG' : Hid (∀ W s ap cs, Below w.heap.size w W → w.heap.size ≤ ap → W.heap[ap]? = some (.cells cs 56 (0, 0)) → OwnA W w.heap.size s o.A → Calls Tryz.prog 75 #[.pointer (some ⟨g, 0, none⟩), PQ s] W fun e w' => e = .returned .nilIface ∧ KK s w' ∧ w'.heap[ap]? = W.heap[ap]?) := by rw [← hKK]; exact CG
  have CA' : Hid (∀ W s, KK s W → Calls Tryz.prog 76 #[.pointer (some ⟨g, 0, none⟩), PQ s] W fun e w' => e = .returned (.tuple #[]) ∧ Gath w' B D g (E ++ [o]) ∧ FrB B D w w') := fun W s h => by rw [← hKK] at h; exact CA.out W s h.1 h.2.1 h.2.2.1 h.2.2.2
  obtain ⟨AA, hAA⟩ : ∃ A, o.A = A := ⟨_, rfl⟩
  obtain ⟨EE, hEE⟩ : ∃ X, E ++ [o] = X := ⟨_, rfl⟩
  rw [hEE] at CA' ⊢
  rw [hAA] at CG' c1
  obtain ⟨k, t, ⟨x, n, u⟩, cc, A⟩ := o
  simp only [opC] at c1
  clear hS hR hF hg h hE hE0 hnn hB hob hor hwo hco r1 r2 r3 r4 r5 CG CA hPQ hR1 hKK hAA hEE hD
  go_enter Tryz.func29, Tryz.ntmps29
  go_wp2_with fail
  refine c1.mono ?_; rintro r w2 ⟨v', rfl, hv, _, hb2⟩
  obtain ⟨s, ap, cp, rfl, hc, hs, cs, hcs, hap⟩ := hv (by first | trivial | rfl)
  obtain ⟨uu, xx, hux⟩ := hq s
  have cg := CG'.out w2.drew s ap cs hb2.drew hap hcs hs
  have CA2 : Hid (∀ W, KK s W → Calls Tryz.prog 76 #[.pointer (some ⟨g, 0, none⟩), .iface uu xx] W fun e w' => e = .returned (.tuple #[]) ∧ Gath w' B D g EE ∧ FrB B D w w') := fun W hW => by have := CA'.out W s hW; rw [hux] at this; exact this
  rw [hux] at hc cg
  have hc' : w2.drew.cell? ⟨ap, 0, none⟩ = some (.iface uu xx) := hc
  clear c1 CG' CA' hq hux hv hcs hs
  go_wp2_with fail
  go_region_held3 (fun w' => w'.cell? ⟨ap, 0, none⟩ = some (.iface uu xx) ∧ (KK s w' ∨ w' = w2.drew))
    (first | exact ⟨by with_reducible assumption, Or.inl (by with_reducible assumption)⟩ | exact ⟨by with_reducible assumption, Or.inr rfl⟩)
    (first | (go_at_call 75; refine cg.mono ?_; rintro r w5 ⟨rfl, hk5, he5⟩; have hc5 := (World.cell?_of_block (a := ⟨ap, 0, none⟩) he5).trans hc'))
  have ca := CA2.out w5 hk5
  clear cg hk5 CA2 he5
  go_wp2_with fail
  refine ca.mono ?_; rintro r w6 ⟨rfl, h6, f6⟩
  have H6 : Hid (Gath w6 B D g EE ∧ FrB B D w w6) := ⟨h6, f6⟩
  clear ca h6 f6
  go_wp2
  go_ret
  exact ⟨rfl, H6.out⟩
end Go.Proofs.YtplnojapnaaakaaGreatDoor

/- build: Delta and New: what a builder answers. -/
namespace Go.Proofs.YtplnojapnaaakaaGreatDoor
open Go Go.RowKit Go.Lib
set_option linter.unusedVariables false
theorem pie_one {w : World} {B : Nat} {PL : List Value} {P : List Op5} (h : PieD w B PL P) : ∀ u ∈ PL, u.oneCell' = true := fun u hu => by
  obtain ⟨k, hk⟩ := List.getElem?_of_mem hu
  obtain ⟨e, s, _, rfl, _⟩ := oneI h hk
  obtain ⟨t, x, e⟩ := pieceQ_if e s
  rw [e]; rfl
/-- append(own, a row of pieces ...). -/
theorem wpList_append_rowI {w : World} {ops : Array Oper} {rest : List Oper} {o : Oper} {a : Act} {Q : Exit → Act → World → Prop} (hgd : o.guard = none) (s x : Operand)
    (ho : o.op = .call { callee := .builtin .append, args := #[s, x], argTypes := #[88, 88] })
    (base : Nat) (v : Value) (P : List Value) (hs : a.eval s = v) (hown : OwnI w base v P)
    (b n c : Nat) (M : List Value) (B : Nat) (hx : a.eval x = .slice (some ⟨b, 0, none⟩) n c) (hM : w.ownsRow B 56 1 (.slice (some ⟨b, 0, none⟩) n c) n M) (h1 : ∀ u ∈ M, u.oneCell' = true)
    (h63 : P.length + M.length ≤ 8388608) (hbase : base ≤ w.heap.size)
    (h : ∀ v' w', OwnI w' base v' (P ++ M) → w.grownBy w' v.ownBlock → wpList Tryz.prog ops Q rest (a.put o.dst v') w') : wpList Tryz.prog ops Q (o :: rest) a w := by
  obtain ⟨i, z, hi, hz, hz1, hz2, hz3⟩ := infoPi
  have hn : M.length = n := by simpa using hM.1
  exact wpList_append_own _ hgd s x _ ho base 56 i z 1 16 Tryz.underlying88 hi hz hz1 hz2 hz3 (by decide) v P.length P hs hown ⟨b, 0, none⟩ n c M hx (by omega) (fun j y hj => hM.cells (g := b) rfl j y hj) h1 (by unfold maxLen; omega) (by omega) hbase (fun v' w' h1 h2 _ => h v' w' (by show w'.ownsRow _ _ _ _ _ _; rw [List.length_append, hn]; exact h1) h2)
set_option maxHeartbeats 2000000 in
set_option maxRecDepth 100000 in
theorem clonePi_any (v : Value) (PL : List Value) (B : Nat) (w : World) (hv : OwnI w B v PL) (h1 : ∀ u ∈ PL, u.oneCell' = true) (hl : PL.length ≤ 8388608) :
    Calls Tryz.prog 41 #[v] w fun e w' => ∃ v', e = .returned v' ∧ OwnI w' w.heap.size v' PL ∧ Below w.heap.size w w' := by
  have q0 : ∀ (w : World) (a : Option Addr) (n c n' c' : Nat), (binOp .eql 88 (.slice a n c) (.slice none n' c')).run Tryz.prog w = .ok (.bool a.isNone) w := fun w a n c n' c' => Lib.run_eql_slice_nil w _ _ a n c n' c' Tryz.underlying88
  rcases hv.2 with ⟨rfl, h0⟩ | ⟨g, cap, cur, rfl, h2, h3, h4, h5, h6, h7⟩
  · have hz : PL = [] := List.eq_nil_of_length_eq_zero h0
    subst hz
    clear hv
    go_enter Tryz.func41, Tryz.ntmps41
    go_wp2
    go_ret
    exact ⟨_, rfl, World.ownsRow_nil _ _ _ _, Below.refl _ _⟩
  · have ba : Below w.heap.size w (w.alloc (.cells #[] 56)) := (Below.refl _ _).alloc (Nat.le_refl _) _
    have o0 : OwnI (w.alloc (.cells #[] 56)) w.heap.size (.slice (some ⟨w.heap.size, 0, none⟩) 0 0) [] :=
      ⟨rfl, Or.inr ⟨w.heap.size, 0, #[], rfl, Nat.le_refl _, heap_alloc_new w _, Nat.le_refl _, Nat.zero_le _, rfl, rfl⟩⟩
    have hM : Hid (OwnI (w.alloc (.cells #[] 56)) B (.slice (some ⟨g, 0, none⟩) PL.length cap) PL) := owns_below hv ba
    have hO : Hid (∀ u ∈ PL, u.oneCell' = true) := h1
    have hge : Hid (∀ j, (Value.slice (some ⟨w.heap.size, 0, none⟩) 0 0).ownBlock = some j → w.heap.size ≤ j) := fun j hj => (owns_block o0 j hj).1
    have hl0 : ([] : List Value).length + PL.length ≤ 8388608 := by simpa using hl
    clear hv h2 h3 h4 h5 h6 h7 h1
    go_enter Tryz.func41, Tryz.ntmps41
    go_wp2_with (at_builtin; refine wpList_append_rowI rfl (.tmp 5) (.tmp 6) rfl w.heap.size (.slice (some ⟨w.heap.size, 0, none⟩) 0 0) [] rfl o0 g PL.length cap PL B rfl hM.out hO.out hl0 ba.size ?_; intro v8 w8 own8 gr8; have b8 : Below w.heap.size w w8 := ba.grown gr8 ba.size (fun j hj => hge.out j hj); have HO8 : Hid (OwnI w8 w.heap.size v8 ([] ++ PL)) := own8; clear own8 gr8 o0)
    go_ret
    exact ⟨_, rfl, by have := HO8.out; rwa [List.nil_append] at this, b8⟩
set_option maxHeartbeats 1000000 in
theorem plainN_any (w : World) : Calls Tryz.prog 42 #[.nilIface] w fun r w' => r = .returned (.bool false) ∧ Below w.heap.size w w' := by
  have a2 : ∀ w : World, (Instr.typeAssert .nilIface 56 151 true).run Tryz.prog w = .ok (.tuple #[.agg #[.slice none 0 0, .int .i64 0], .bool false]) w := fun w => by kernel_rfl
  go_enter Tryz.func42, Tryz.ntmps42
  go_wp2
  go_ret
  exact ⟨rfl, by go_grown⟩
set_option maxHeartbeats 1000000 in
theorem plainB_any (o : Op5) (p : Option Addr) (l c : Nat) (w : World) (hl : l = o.A.length) (hk : o.k = 1 ∨ o.k = 2 ∨ o.k = 3 ∨ o.k = 4) :
    Calls Tryz.prog 42 #[pieceQ o (.slice p l c)] w fun r w' => r = .returned (.bool (plainR o)) ∧ Below w.heap.size w w' := by
  rcases hk with h | h | h | h
  · have hp : plainR o = false := by unfold plainR; rw [h]; rfl
    rw [pieceQ_1 h, hp]
    obtain ⟨n, hn⟩ : ∃ n : Int, ((scs o.t.data.toList).length : Int) = n := ⟨_, rfl⟩
    rw [hn]
    clear hp h hl hn
    have a1 := as_i_r
    go_enter Tryz.func42, Tryz.ntmps42
    go_wp2
    go_ret
    exact ⟨rfl, by go_grown⟩
  · have hp : plainR o = false := by unfold plainR; rw [h]; rfl
    rw [pieceQ_2 h, hp]
    obtain ⟨V, hV⟩ : ∃ V, valP o.v = V := ⟨_, rfl⟩
    rw [hV]
    clear hp h hl hV
    have a1 := as_e_r
    go_enter Tryz.func42, Tryz.ntmps42
    go_wp2
    go_ret
    exact ⟨rfl, by go_grown⟩
  · have hp : plainR o = decide (l = 0) := by
      unfold plainR
      rw [h, hl]
      cases o.A <;> simp
    rw [pieceQ_3 h, hp]
    have hz : ((l : Int) == 0) = decide (l = 0) := by rw [Bool.eq_iff_iff]; simp
    clear hp h hl
    have a1 := as_r_r
    go_enter Tryz.func42, Tryz.ntmps42
    go_wp2
    go_ret
    exact ⟨rfl, by go_grown⟩
  · have hp : plainR o = false := by unfold plainR; rw [h]; rfl
    rw [pieceQ_4 h, hp]
    clear hp h hl
    have a1 := as_d_r
    go_enter Tryz.func42, Tryz.ntmps42
    go_wp2
    go_ret
    exact ⟨rfl, by go_grown⟩

/-- A delta in memory. -/
def DelV (w : World) (B1 B2 : Nat) (v : Value) (E : List Op5) : Prop := ∃ q pv PL, v = .pointer (some ⟨q, 0, none⟩) ∧ B1 ≤ q ∧ w.heap[q]? = some (.cells #[pv] 101 (0, 0)) ∧ OwnI w B1 pv PL ∧ PieD w B2 PL E
theorem DelV.below {w w' : World} {B1 B2 : Nat} {v : Value} {E : List Op5} (h : DelV w B1 B2 v E) (b : Below w.heap.size w w') : DelV w' B1 B2 v E := by
  obtain ⟨q, pv, PL, h1, h2, h3, h4, h5⟩ := h
  exact ⟨q, pv, PL, h1, h2, (b.block q (Array.getElem?_eq_some_iff.1 h3).1).trans h3, owns_below h4 b, h5.below b⟩
theorem own_front {w : World} {B g n cap : Nat} {FL : List Value} {x : Value} (h : w.ownsRow B 56 1 (.slice (some ⟨g, 0, none⟩) (n + 1) cap) (n + 1) (FL ++ [x])) : w.ownsRow B 56 1 (.slice (some ⟨g, 0, none⟩) n cap) n FL := by
  have hl : FL.length = n := by have := h.1; simp at this; omega
  rcases h.2 with ⟨e, _⟩ | ⟨g', cap', cur, e, h2, h3, h4, h5, h6, h7⟩
  · cases e
  · simp only [Value.slice.injEq, Option.some.injEq, Addr.mk.injEq, and_true, true_and] at e
    obtain ⟨rfl, rfl⟩ := e
    refine ⟨by omega, .inr ⟨g, cap, cur, rfl, h2, h3, by omega, h5, h6, ?_⟩⟩
    have h8 := congrArg (List.take n) h7
    rw [List.take_take, ← hl, List.take_left, Nat.min_eq_left (by omega)] at h8
    rw [← hl, Nat.mul_one]
    exact h8
theorem new_any {B : Nat} {D : Nat → Prop} (w : World) (hB : B ≤ w.heap.size) (hD : ¬ D w.heap.size) :
    Calls Tryz.prog 9 #[] w fun e w' => e = .returned (.pointer (some ⟨w.heap.size, 0, none⟩)) ∧ Gath w' B D w.heap.size [] ∧ Below w.heap.size w w' := by
  go_enter Tryz.func9, Tryz.ntmps9
  go_wp2
  go_ret
  refine ⟨rfl, ?_, (Below.refl _ _).alloc (Nat.le_refl _) _⟩
  refine ⟨.slice none 0 0, [], [], ⟨.pointer none, .slice none 0 0, hB, ?_, World.ownsRowF_nil _ _ _ _, Or.inl rfl⟩, hD, World.ownsRow_nil _ _ _ _, fun k hk => (by cases hk), .nil, Or.inl rfl⟩
  exact heap_alloc_new w _
end Go.Proofs.YtplnojapnaaakaaGreatDoor

/- build: Delta: what a builder answers. -/
namespace Go.Proofs.YtplnojapnaaakaaGreatDoor
open Go Go.RowKit Go.Lib
set_option linter.unusedVariables false
abbrev DelR (w w' : World) (B : Nat) (e : Ending) (E : List Op5) : Prop := ∃ v, e = .returned v ∧ DelV w' w.heap.size B v E ∧ Below w.heap.size w w'
theorem del_new {w' : World} {B1 B : Nat} {pv : Value} {PL : List Value} {E : List Op5} (h1 : OwnI w' B1 pv PL) (h2 : PieD w' B PL E) (hB : B1 ≤ w'.heap.size) : DelV (w'.alloc (.cells #[pv] 101)) B1 B (.pointer (some ⟨w'.heap.size, 0, none⟩)) E := by
  have ba : Below w'.heap.size w' (w'.alloc (.cells #[pv] 101)) := (Below.refl _ _).alloc (Nat.le_refl _) _
  exact ⟨_, pv, PL, rfl, hB, heap_alloc_new w' _, owns_below h1 ba, h2.below ba⟩
theorem bld_clone {w : World} {B g : Nat} {D : Nat → Prop} {b r : Int} {P : List Op5} {d : Int} {pv : Value} {PL : List Value} {l : List UInt8} (h : Bld w B D g b r P d pv PL l) (hP : P.length ≤ 4194304) :
    Calls Tryz.prog 41 #[pv] w fun e w' => ∃ v', e = .returned v' ∧ OwnI w' w.heap.size v' PL ∧ Below w.heap.size w w' :=
  clonePi_any pv PL B w h.row (pie_one h.pie) (by rw [forall2_len h.pie]; omega)

set_option maxHeartbeats 2000000 in
set_option maxRecDepth 100000 in
theorem delta_del {B g : Nat} {D : Nat → Prop} {b r : Int} {P : List Op5} {d : Int} (w : World) (h : BldE w B D g b r P d) (hP : P.length ≤ 4194304) (hd : 0 < d) :
    Calls Tryz.prog 10 #[.pointer (some ⟨g, 0, none⟩)] w fun e w' => DelR w w' B e (P ++ [delO d]) := by
  obtain ⟨pv, PL, l, h⟩ := h
  have cl := bld_clone h hP
  obtain ⟨_, _, q2, q3, _, hBg, _, _⟩ := h.sb.cells
  obtain ⟨p, cp, hpv⟩ := own_slice h.row
  have hB : B ≤ w.heap.size := by have := h.sb.lt; omega
  have hPL : PL.length ≤ 1048677 ∨ True := Or.inr trivial
  have HP : Hid (PieD w B PL P ∧ B ≤ w.heap.size ∧ g < w.heap.size) := ⟨h.pie, hB, h.sb.lt⟩
  have hlen : PL.length ≤ 8388608 := by rw [forall2_len h.pie]; omega
  clear h hpv hPL hB hP
  go_enter Tryz.func10, Tryz.ntmps10
  go_wp2_with fail
  refine cl.mono ?_; rintro e w1 ⟨v1, rfl, own1, hb1⟩
  have m3 := (hb1.cell (p := ⟨g, 3, none⟩) HP.out.2.2).trans q3
  have ba : Below w1.heap.size w1 (w1.alloc (.cells #[.iface 97 (.agg #[.int .i64 d])] 56)) := (Below.refl _ _).alloc (Nat.le_refl _) _
  have hu6 : (w1.alloc (.cells #[.iface 97 (.agg #[.int .i64 d])] 56)).cell? ⟨w1.heap.size, 0, none⟩ = some (.iface 97 (.agg #[.int .i64 d])) := by simp
  have hbs : w.heap.size ≤ (w1.alloc (.cells #[.iface 97 (.agg #[.int .i64 d])] 56)).heap.size := Nat.le_trans hb1.size ba.size
  have own2 : OwnI (w1.alloc (.cells #[.iface 97 (.agg #[.int .i64 d])] 56)) w.heap.size v1 PL := owns_below own1 ba
  have HO : Hid (OwnI (w1.alloc (.cells #[.iface 97 (.agg #[.int .i64 d])] 56)) w.heap.size v1 PL) := own2
  have HW : Hid (∀ v8 w8, OwnI w8 w.heap.size v8 (PL ++ [.iface 97 (.agg #[.int .i64 d])]) → (w1.alloc (.cells #[.iface 97 (.agg #[.int .i64 d])] 56)).grownBy w8 v1.ownBlock → DelV (w8.alloc (.cells #[v8] 101)) w.heap.size B (.pointer (some ⟨w8.heap.size, 0, none⟩)) (P ++ [delO d]) ∧ Below w.heap.size w (w8.alloc (.cells #[v8] 101))) := fun v8 w8 h1 h2 => by
    have hbw : Below w.heap.size w w8 := (hb1.trans (ba.mono hb1.size)).grown h2 hbs (fun k hk => (owns_block own2 k hk).1)
    have hp8 : PieD w8 B (PL ++ [.iface 97 (.agg #[.int .i64 d])]) (P ++ [delO d]) := forall2_append (HP.out.1.below hbw) (.cons ⟨.slice none 0 0, (pieceQ_4 (o := delO d) rfl).symm, World.ownsRow_nil _ _ _ _⟩ .nil)
    exact ⟨del_new h1 hp8 hbw.size, hbw.alloc hbw.size _⟩
  clear cl own1 hb1 own2 ba HP q3 q2
  go_wp2_with (at_builtin; refine wpList_append_piAt rfl (.tmp 15) (.tmp 22) rfl w.heap.size v1 PL rfl HO.out w1.heap.size 1 (.iface 97 (.agg #[.int .i64 d])) rfl hu6 rfl hlen hbs ?_; intro v8 w8 own8 gr8 at8; have HQ := HW.out v8 w8 own8 gr8; obtain ⟨p8, c8, rfl⟩ := own_slice own8; have HQ' : Hid (DelV _ _ _ _ _ ∧ Below _ _ _) := HQ; clear own8 gr8 at8 HQ HW hu6 HO)
  go_ret
  have hq := HQ'.out
  rw [show (PL ++ [Value.iface 97 (.agg #[.int .i64 d])]).length = PL.length + 1 by simp] at hq
  exact ⟨_, rfl, hq⟩
set_option maxHeartbeats 2000000 in
set_option maxRecDepth 100000 in
theorem delta_nil {B g : Nat} {D : Nat → Prop} {b r : Int} (w : World) (h : BldE w B D g b r [] 0) :
    Calls Tryz.prog 10 #[.pointer (some ⟨g, 0, none⟩)] w fun e w' => DelR w w' B e [] := by
  obtain ⟨pv, PL, l, h⟩ := h
  have cl := bld_clone h (by simp)
  obtain ⟨_, _, q2, q3, _, hBg, _, _⟩ := h.sb.cells
  obtain ⟨p, cp, hpv⟩ := own_slice h.row
  have hz : PL = [] := List.eq_nil_of_length_eq_zero (by have := forall2_len h.pie; simpa using this)
  subst hz
  have hgw := h.sb.lt
  clear h hpv
  go_enter Tryz.func10, Tryz.ntmps10
  go_wp2_with fail
  refine cl.mono ?_; rintro e w1 ⟨v1, rfl, own1, hb1⟩
  have m3 := (hb1.cell (p := ⟨g, 3, none⟩) hgw).trans q3
  obtain ⟨p1, c1, rfl⟩ := own_slice own1
  have c2 := last_nil p1 c1 w1
  have HO : Hid (OwnI w1 w.heap.size (.slice p1 ([] : List Value).length c1) [] ∧ Below w.heap.size w w1) := ⟨own1, hb1⟩
  clear cl own1 hb1 q2 q3
  go_wp2_with fail
  refine c2.mono ?_; rintro e w2 ⟨rfl, rfl⟩
  have c3 := plainN_any w2
  clear c2
  go_wp2_with fail
  refine c3.mono ?_; rintro e w3 ⟨rfl, hb3⟩
  have HQ : Hid (DelV (w3.alloc (.cells #[.slice p1 0 c1] 101)) w.heap.size B (.pointer (some ⟨w3.heap.size, 0, none⟩)) [] ∧ Below w.heap.size w (w3.alloc (.cells #[.slice p1 0 c1] 101))) := by
    have b3 := HO.out.2.trans (hb3.mono HO.out.2.size)
    exact ⟨del_new (pv := .slice p1 0 c1) (PL := []) (owns_below HO.out.1 hb3) .nil b3.size, b3.alloc b3.size _⟩
  clear c3 hb3 HO
  go_wp2
  go_ret
  exact ⟨_, rfl, HQ.out⟩
set_option maxHeartbeats 4000000 in
set_option maxRecDepth 100000 in
theorem delta_some {B g : Nat} {D : Nat → Prop} {b r : Int} {F : List Op5} {x : Op5} (w : World) (h : BldE w B D g b r (F ++ [x]) 0) (hP : F.length ≤ 4194303) (hk : x.k = 1 ∨ x.k = 2 ∨ x.k = 3 ∨ x.k = 4) :
    Calls Tryz.prog 10 #[.pointer (some ⟨g, 0, none⟩)] w fun e w' => DelR w w' B e (if plainR x then F else F ++ [x]) := by
  obtain ⟨pv, PL, l, h⟩ := h
  have cl := bld_clone h (by rw [List.length_append]; simp; omega)
  obtain ⟨_, _, q2, q3, _, hBg, _, _⟩ := h.sb.cells
  obtain ⟨p, cp, hpv⟩ := own_slice h.row
  obtain ⟨FL, s, rfl, hFL, hs⟩ := pie_last h.pie
  have hgw := h.sb.lt
  obtain ⟨n, hn⟩ : ∃ n, FL.length = n := ⟨_, rfl⟩
  have hnF : n = F.length := by rw [← hn, forall2_len hFL]
  obtain ⟨ps, cs, hsl⟩ := own_slice hs
  have CP : Hid (∀ W, Calls Tryz.prog 42 #[pieceQ x s] W fun r w' => r = .returned (.bool (plainR x)) ∧ Below W.heap.size W w') := fun W => by rw [hsl]; exact plainB_any x ps x.A.length cs W rfl hk
  have hq := pieceQ_if x s
  obtain ⟨PQ, hPQ⟩ : ∃ z, pieceQ x s = z := ⟨_, rfl⟩
  have HP : Hid (PieD w B FL F ∧ PieD w B (FL ++ [PQ]) (F ++ [x]) ∧ FL.length = n) := ⟨hFL, by rw [← hPQ]; exact h.pie, hn⟩
  rw [hPQ] at cl CP hq
  obtain ⟨pl, hpl⟩ : ∃ z, plainR x = z := ⟨_, rfl⟩
  rw [hpl] at CP ⊢
  have hnl : n ≤ 4194303 := by omega
  clear h hpv hFL hs hn hnF hsl hPQ hk hpl hP
  have hz : ((n : Int) + 1) - 1 = (n : Int) := by omega
  go_enter Tryz.func10, Tryz.ntmps10
  go_wp2_with fail
  refine cl.mono ?_; rintro e w1 ⟨v1, rfl, own1, hb1⟩
  have m3 := (hb1.cell (p := ⟨g, 3, none⟩) hgw).trans q3
  have hln : (FL ++ [PQ]).length = n + 1 := by simp [HP.out.2.2]
  obtain ⟨pb, cap, rfl, hcap⟩ : ∃ pb cap, v1 = .slice (some ⟨pb, 0, none⟩) (n + 1) cap ∧ n + 1 ≤ cap := by
    rcases own1.2 with ⟨_, e⟩ | ⟨g', cap, cur, e, _, _, hc, _⟩
    · rw [hln] at e; omega
    · exact ⟨g', cap, by rw [e, hln], by omega⟩
  have c2 := last_one _ FL PQ w.heap.size w1 own1 (by rw [HP.out.2.2]; omega)
  have HO : Hid (OwnI w1 w.heap.size (.slice (some ⟨pb, 0, none⟩) (n + 1) cap) (FL ++ [PQ]) ∧ Below w.heap.size w w1) := ⟨own1, hb1⟩
  clear cl own1 hb1 q2 q3 hln
  obtain ⟨uu, xx, rfl⟩ := hq
  go_wp2_with fail
  refine c2.mono ?_; rintro e w2 ⟨rfl, rfl⟩
  have c3 := CP.out w2
  clear c2 CP
  cases pl with
  | true =>
    go_wp2_with fail
    refine c3.mono ?_; rintro e w3 ⟨rfl, hb3⟩
    have HQ : Hid (DelV (w3.alloc (.cells #[.slice (some ⟨pb, 0, none⟩) n cap] 101)) w.heap.size B (.pointer (some ⟨w3.heap.size, 0, none⟩)) F ∧ Below w.heap.size w (w3.alloc (.cells #[.slice (some ⟨pb, 0, none⟩) n cap] 101))) := by
      have b3 := HO.out.2.trans (hb3.mono HO.out.2.size)
      have o3 : w3.ownsRow w.heap.size 56 1 (.slice (some ⟨pb, 0, none⟩) (n + 1) cap) (n + 1) (FL ++ [.iface uu xx]) := by
        have := owns_below HO.out.1 hb3
        rw [show (FL ++ [Value.iface uu xx]).length = n + 1 by simp [HP.out.2.2]] at this
        exact this
      have o4 := own_front o3
      have o5 : OwnI w3 w.heap.size (.slice (some ⟨pb, 0, none⟩) n cap) FL := by
        show World.ownsRow _ _ _ _ _ _ _
        rw [HP.out.2.2]
        exact o4
      exact ⟨del_new o5 (HP.out.1.below b3) b3.size, b3.alloc b3.size _⟩
    clear c3 hb3 HO HP
    go_wp2
    go_ret
    exact ⟨_, rfl, HQ.out⟩
  | false =>
    go_wp2_with fail
    refine c3.mono ?_; rintro e w3 ⟨rfl, hb3⟩
    have HQ : Hid (DelV (w3.alloc (.cells #[.slice (some ⟨pb, 0, none⟩) (n + 1) cap] 101)) w.heap.size B (.pointer (some ⟨w3.heap.size, 0, none⟩)) (F ++ [x]) ∧ Below w.heap.size w (w3.alloc (.cells #[.slice (some ⟨pb, 0, none⟩) (n + 1) cap] 101))) := by
      have b3 := HO.out.2.trans (hb3.mono HO.out.2.size)
      exact ⟨del_new (owns_below HO.out.1 hb3) (HP.out.2.1.below b3) b3.size, b3.alloc b3.size _⟩
    clear c3 hb3 HO HP
    go_wp2
    go_ret
    exact ⟨_, rfl, HQ.out⟩
/-- What a builder answers. -/
theorem delta_any {B g : Nat} {D : Nat → Prop} {E : List Op5} (w : World) (h : Gath w B D g E) (hE : OkE E) :
    Calls Tryz.prog 10 #[.pointer (some ⟨g, 0, none⟩)] w fun e w' => DelR w w' B e (canonL E) := by
  obtain ⟨r1, r2, r3, r4, r5⟩ := okE_run hE
  rw [← finB_canon hE.wel]
  unfold Gath at h
  obtain ⟨⟨P, d⟩, hs⟩ : ∃ s, bldR E = s := ⟨_, rfl⟩
  rw [hs] at h r1 r2 r3 r4 r5 ⊢
  have h : BldE w B D g (sumB E) (sumR E) P d := h
  have r2 : OkP P := r2
  have r4 : 0 ≤ d := r4
  have e : finB (P, d) = if 0 < d then P ++ [delO d] else trimL P := rfl
  rw [e]
  by_cases h0 : 0 < d
  · rw [if_pos h0]
    exact delta_del w h r2.len h0
  · rw [if_neg h0]
    obtain rfl : d = 0 := by omega
    rcases List.eq_nil_or_concat P with rfl | ⟨F, x, rfl⟩
    · exact delta_nil w h
    · rw [List.concat_eq_append] at h r2 ⊢
      have := delta_some w h (by have := r2.len; rw [List.length_append] at this; simp at this; omega) (r2.wel x (List.mem_append_right _ (List.mem_singleton.2 rfl))).kinds
      unfold trimL
      rw [List.getLast?_concat, List.dropLast_concat]
      exact this
end Go.Proofs.YtplnojapnaaakaaGreatDoor

/- build: Of and Empty: the delta of a list of operations. -/
namespace Go.Proofs.YtplnojapnaaakaaGreatDoor
open Go Go.RowKit Go.Lib
set_option linter.unusedVariables false
/-- What an operation is refused with, behind others of these lengths. -/
def refE (b r : Int) (o : Op5) : Nat := if opE o ≠ 0 then opE o else if 1099511627776 < b + baseO o ∨ 1099511627776 < r + resO o then 11 else 0
/-- The number of the operation that is refused, the error. -/
def ofE : Int → Int → List Op5 → Nat × Nat
  | _, _, [] => (0, 0)
  | b, r, o :: L => if refE b r o ≠ 0 then (0, refE b r o) else if (ofE (b + baseO o) (r + resO o) L).2 = 0 then (0, 0) else ((ofE (b + baseO o) (r + resO o) L).1 + 1, (ofE (b + baseO o) (r + resO o) L).2)
theorem refE_zero {b r : Int} {o : Op5} : refE b r o = 0 ↔ opE o = 0 ∧ b + baseO o ≤ 1099511627776 ∧ r + resO o ≤ 1099511627776 := by
  unfold refE
  by_cases h : opE o = 0
  · rw [if_neg (by simpa using h)]
    by_cases h2 : 1099511627776 < b + baseO o ∨ 1099511627776 < r + resO o
    · rw [if_pos h2]; constructor
      · intro h; cases h
      · rintro ⟨_, a, b⟩; omega
    · rw [if_neg h2]; exact ⟨fun _ => ⟨h, by omega, by omega⟩, fun _ => rfl⟩
  · rw [if_pos h]
    exact ⟨fun e => absurd e h, fun e => absurd e.1 h⟩
theorem sumB_cons (o : Op5) (L : List Op5) : sumB (o :: L) = baseO o + sumB L := by simp [sumB]
theorem sumR_cons (o : Op5) (L : List Op5) : sumR (o :: L) = resO o + sumR L := by simp [sumR]
theorem ofE_at : ∀ (F : List Op5) (b r : Int) (o : Op5) (R : List Op5) (e : Nat), (∀ x ∈ F, opE x = 0) → b + sumB F ≤ 1099511627776 → r + sumR F ≤ 1099511627776 → refE (b + sumB F) (r + sumR F) o = e + 1 → ofE b r (F ++ o :: R) = (F.length, e + 1)
  | [], b, r, o, R, e, _, _, _, h => by
    have h' : refE b r o = e + 1 := by simpa [sumB, sumR] using h
    show (if refE b r o ≠ 0 then (0, refE b r o) else _) = _
    rw [if_pos (by omega), h']; rfl
  | x :: F, b, r, o, R, e, hg, h1, h2, h => by
    rw [sumB_cons] at h1 h
    rw [sumR_cons] at h2 h
    have hx := hg x (List.mem_cons_self ..)
    have hF : ∀ y ∈ F, opE y = 0 := fun y hy => hg y (List.mem_cons_of_mem _ hy)
    have hn := sums_nn (E := F) (fun y hy => wel_of (hF y hy))
    have h0 : refE b r x = 0 := refE_zero.2 ⟨hx, by omega, by omega⟩
    have ih := ofE_at F (b + baseO x) (r + resO x) o R e hF (by omega) (by omega) (by rw [← h, Int.add_assoc, Int.add_assoc])
    show (if refE b r x ≠ 0 then (0, refE b r x) else if (ofE (b + baseO x) (r + resO x) (F ++ o :: R)).2 = 0 then (0, 0) else ((ofE (b + baseO x) (r + resO x) (F ++ o :: R)).1 + 1, (ofE (b + baseO x) (r + resO x) (F ++ o :: R)).2)) = _
    rw [if_neg (by simpa using h0), ih, if_neg (by simp)]
    rfl
theorem ofE_ok : ∀ (F : List Op5) (b r : Int), (∀ x ∈ F, opE x = 0) → b + sumB F ≤ 1099511627776 → r + sumR F ≤ 1099511627776 → ofE b r F = (0, 0)
  | [], b, r, _, _, _ => rfl
  | x :: F, b, r, hg, h1, h2 => by
    rw [sumB_cons] at h1
    rw [sumR_cons] at h2
    have hx := hg x (List.mem_cons_self ..)
    have hF : ∀ y ∈ F, opE y = 0 := fun y hy => hg y (List.mem_cons_of_mem _ hy)
    have hn := sums_nn (E := F) (fun y hy => wel_of (hF y hy))
    have h0 : refE b r x = 0 := refE_zero.2 ⟨hx, by omega, by omega⟩
    have ih := ofE_ok F (b + baseO x) (r + resO x) hF (by omega) (by omega)
    show (if refE b r x ≠ 0 then (0, refE b r x) else if (ofE (b + baseO x) (r + resO x) F).2 = 0 then (0, 0) else ((ofE (b + baseO x) (r + resO x) F).1 + 1, (ofE (b + baseO x) (r + resO x) F).2)) = _
    rw [if_neg (by simpa using h0), ih, if_pos rfl]
theorem ofE_split {E : List Op5} {k : Nat} {o : Op5} (h : E[k]? = some o) : E = E.take k ++ o :: E.drop (k + 1) := by
  have hlt := (List.getElem?_eq_some_iff.1 h).1
  have e : E.drop k = o :: E.drop (k + 1) := by
    rw [List.drop_eq_getElem_cons hlt]
    congr 1
    rw [List.getElem?_eq_getElem hlt] at h
    exact Option.some.inj h
  rw [← e, List.take_append_drop]
theorem ofE_no {E : List Op5} {k : Nat} {o : Op5} {e : Nat} (h : E[k]? = some o) (hk : OkE (E.take k)) (hr : refE (sumB (E.take k)) (sumR (E.take k)) o = e + 1) : ofE 0 0 E = (k, e + 1) := by
  have hlt := (List.getElem?_eq_some_iff.1 h).1
  have := ofE_at (E.take k) 0 0 o (E.drop (k + 1)) e hk.good (by have := hk.base; omega) (by have := hk.res; omega) (by rw [Int.zero_add, Int.zero_add]; exact hr)
  rw [← ofE_split h, List.length_take, Nat.min_eq_left (by omega)] at this
  exact this
theorem okE_snoc {F : List Op5} {o : Op5} (h : OkE F) (hg : refE (sumB F) (sumR F) o = 0) (hf : FitA o) (ht : txtS (F ++ [o]) ≤ 8388608) (hl : (F ++ [o]).length ≤ 4194304) : OkE (F ++ [o]) := by
  obtain ⟨g1, g2, g3⟩ := refE_zero.1 hg
  refine ⟨fun x hx => ?_, fun x hx => ?_, ht, hl, by rw [sumB_append, sumB_one]; exact g2, by rw [sumR_append, sumR_one]; exact g3⟩
  · rcases List.mem_append.1 hx with hx | hx
    · exact h.good x hx
    · rw [List.mem_singleton.1 hx]; exact g1
  · rcases List.mem_append.1 hx with hx | hx
    · exact h.fit x hx
    · rw [List.mem_singleton.1 hx]; exact hf
theorem txtS_take (E : List Op5) (k : Nat) : txtS (E.take k) ≤ txtS E := by
  have : txtS E = txtS (E.take k) + txtS (E.drop k) := by rw [← txtS_append, List.take_append_drop]
  omega
/-- A list that is refused nowhere is in order. -/
theorem okE_of {E : List Op5} (h : (ofE 0 0 E).2 = 0) (hF : FitL E) (hl : E.length ≤ 4194304) (ht : txtS E ≤ 8388608) : OkE E := by
  have key : ∀ k, k ≤ E.length → OkE (E.take k) := by
    intro k
    induction k with
    | zero => intro _; rw [List.take_zero]; exact OkE.nil
    | succ k ih =>
      intro hk
      have hk' := ih (by omega)
      have he : E[k]? = some E[k] := List.getElem?_eq_getElem (by omega)
      rw [List.take_add_one, he]
      have htk := txtS_take E (k + 1)
      rw [List.take_add_one, he] at htk
      refine okE_snoc hk' ?_ (hF _ (List.getElem_mem _)).fitA (Nat.le_trans htk ht) (by simp; omega)
      cases hr : refE (sumB (E.take k)) (sumR (E.take k)) E[k] with
      | zero => rfl
      | succ e => rw [ofE_no he hk' hr] at h; cases h
  have := key E.length (Nat.le_refl _)
  rwa [List.take_length] at this

set_option maxHeartbeats 4000000 in
set_option maxRecDepth 100000 in
theorem buildOf_any {I : List Nat} {a : Nat → Addr} (v : Value) (E : List Op5) (w : World) (hI : ∀ i ∈ IxO, i ∈ I) (hS : Std I a w) (hv : ReO w v E) (hF : FitL E) (hl : E.length ≤ 1048576) (ht : txtS E ≤ 8388608) :
    Calls Tryz.prog 37 #[v] w fun r w' => ∃ dv, r = .returned (.tuple #[dv, .int .i64 (ofE 0 0 E).1, errOf a (ofE 0 0 E).2]) ∧ ((ofE 0 0 E).2 = 0 → DelV w' w.heap.size w.heap.size dv (canonL E)) ∧ ((ofE 0 0 E).2 ≠ 0 → dv = .pointer none) ∧ Below w.heap.size w w' := by
  obtain ⟨D0, hrow, hre⟩ := hv
  have hDE := forall2_len hre
  obtain ⟨n, hn⟩ : ∃ n, D0.length = n := ⟨_, rfl⟩
  obtain ⟨p, cap, rfl, hcap, hnz, hc⟩ := hrow
  have cN := new_any (B := w.heap.size) (D := fun k => k < w.heap.size) w (Nat.le_refl _) (by omega)
  have HC : Hid (∀ (j : Nat) (d : OV), D0[j]? = some d → ∃ b off, p = some ⟨b, off, none⟩ ∧ OpAt w b (off + j * 7) d) := hc
  have HN : Hid (D0.length = n ∧ E.length = n) := ⟨hn, by rw [← hDE, hn]⟩
  have hl : n ≤ 1048576 := by rw [← hn, hDE]; exact hl
  have HF : Hid (FitL E ∧ txtS E ≤ 8388608) := ⟨hF, ht⟩
  have HK : Hid (∀ W (k : Nat) d e, Below w.heap.size w W → D0[k]? = some d → E[k]? = some e → ∀ g, (∀ x, opE e = x + 1 → Calls Tryz.prog 29 #[.pointer (some ⟨g, 0, none⟩), ovV d] W fun r w' => r = .returned (errV a x) ∧ Below W.heap.size W w') ∧ (∀ F, opE e = 0 → Gath W w.heap.size (fun k => k < w.heap.size) g F → OkE F → (1099511627776 < sumB F + baseO e ∨ 1099511627776 < sumR F + resO e) → Calls Tryz.prog 29 #[.pointer (some ⟨g, 0, none⟩), ovV d] W fun r w' => r = .returned (errV a 10) ∧ Below W.heap.size W w') ∧ (∀ F, Gath W w.heap.size (fun k => k < w.heap.size) g F → OkE (F ++ [e]) → Calls Tryz.prog 29 #[.pointer (some ⟨g, 0, none⟩), ovV d] W fun r w' => r = .returned .nilIface ∧ Gath w' w.heap.size (fun k => k < w.heap.size) g (F ++ [e]) ∧ FrB w.heap.size (fun k => k < w.heap.size) W w')) := fun W k d e hW h1 h2 g => by
    obtain ⟨y, hy, r1⟩ := forall2_get hre k d h1
    obtain rfl : y = e := Option.some.inj (hy.symm.trans h2)
    have fy := hF y (List.mem_of_getElem? hy)
    rw [opV_of r1]
    have hR := r1.2.2.2.2.below hW
    exact ⟨fun x hx => pushB_no g y _ _ _ W hI (hS.below hW) hR fy x hx, fun F h0 hG hO hov => pushB_long y _ _ _ W hI (hS.below hW) hR fy h0 hG hO hov, fun F hG hO => pushB_ok y _ _ _ W hI (hS.below hW) hR fy hG hO (fun k hk => Nat.lt_of_lt_of_le hk hW.size)⟩
  have HE : Hid (∀ k d, D0[k]? = some d → ∃ e, E[k]? = some e) := fun k d h => by obtain ⟨y, hy, _⟩ := forall2_get hre k d h; exact ⟨y, hy⟩
  obtain ⟨g, hgs⟩ : ∃ g, w.heap.size = g := ⟨_, rfl⟩
  have HGS : Hid (w.heap.size = g) := hgs
  have cN' : Calls Tryz.prog 9 #[] w fun e w' => e = .returned (.pointer (some ⟨g, 0, none⟩)) ∧ Gath w' w.heap.size (fun k => k < w.heap.size) g [] ∧ Below w.heap.size w w' := by rw [← hgs]; exact cN
  rw [hn] at hcap ⊢
  clear hc hn hDE hre hnz hF hS ht cN hgs
  go_enter Tryz.func37, Tryz.ntmps37
  go_wp2_with fail
  refine cN'.mono ?_; rintro r w1 ⟨rfl, hg1, hb1⟩
  have HG1 : Hid (Gath w1 w.heap.size (fun k => k < w.heap.size) g []) := hg1
  clear cN' hg1
  go_wp2
  go_loopw [12] (fun i wr => ∃ (k : Nat), k ≤ n ∧ i = .int .i64 k ∧ Hid (Gath wr w.heap.size (fun k => k < w.heap.size) g (E.take k)) ∧ Hid (OkE (E.take k)) ∧ Below w.heap.size w wr) (fun i _ => n - (RowKit.intOf i).toNat)
  case atStart => exact ⟨0, Nat.zero_le _, rfl, by rw [List.take_zero]; exact HG1, by rw [List.take_zero]; exact OkE.nil, hb1⟩
  case round =>
    clear HG1 hb1
    obtain ⟨k, hk, rfl, HG, HO, hbw⟩ := hrel
    by_cases hlt : k < n
    · have hltI : (k : Int) < n := by omega
      obtain ⟨d, hd⟩ : ∃ d, D0[k]? = some d := ⟨_, List.getElem?_eq_getElem (by rw [HN.out.1]; exact hlt)⟩
      obtain ⟨e, he⟩ := HE.out k d hd
      obtain ⟨b, off, rfl, hp⟩ := HC.out k d hd
      obtain ⟨c0, c1, c2, c3, c4, c5, c6⟩ := hp.below hbw
      have bw : Below wr.heap.size wr (wr.alloc (.cells (ovC d) 33)) := (Below.refl _ _).alloc (Nat.le_refl _) _
      have ba : Below w.heap.size w (wr.alloc (.cells (ovC d) 33)) := hbw.trans (bw.mono hbw.size)
      obtain ⟨cB, cL, cG⟩ := HK.out _ k d e ba hd he g
      have HGa : Hid (Gath (wr.alloc (.cells (ovC d) 33)) w.heap.size (fun k => k < w.heap.size) g (E.take k)) := BldE.below HG.out bw
      have HT : Hid (E.take (k + 1) = E.take k ++ [e] ∧ E[k]? = some e) := by refine ⟨?_, he⟩; rw [List.take_add_one, he]; rfl
      obtain ⟨rz, hrz⟩ : ∃ z, refE (sumB (E.take k)) (sumR (E.take k)) e = z := ⟨_, rfl⟩
      cases rz with
      | zero =>
        have HO2 : Hid (OkE (E.take (k + 1))) := by
          show OkE _
          have htk := txtS_take E (k + 1)
          rw [HT.out.1] at htk ⊢
          exact okE_snoc HO.out hrz (HF.out.1 e (List.mem_of_getElem? he)).fitA (Nat.le_trans htk HF.out.2) (by simp; omega)
        have cP := cG (E.take k) HGa.out (by have := HO2.out; rwa [HT.out.1] at this)
        rw [← HT.out.1] at cP
        clear cB cL cG HG HGa HO hp hd he hrz HT
        obtain ⟨dk, dt, ⟨dx, dn, du⟩, dc, ds⟩ := d
        obtain ⟨dp, dl, dcap⟩ := ds
        simp only [slV, ovC, ovV] at c0 c1 c2 c3 c4 c5 c6 cP ba bw
        go_wp2_with fail
        refine cP.mono ?_; rintro r w5 ⟨rfl, h5, f5⟩
        have b5 : Below w.heap.size w w5 := ba.trans f5.below
        have HG5 : Hid (Gath w5 w.heap.size (fun k => k < w.heap.size) g (E.take (k + 1))) := h5
        clear cP c0 c1 c2 c3 c4 c5 c6 ba bw h5 f5
        go_wp2
        go_roundw
        case rel => exact ⟨k + 1, by omega, by go_num, HG5, HO2, b5⟩
        case measure => simp [RowKit.intOf]; omega
      | succ x =>
        have HB : Hid (ofE 0 0 E = (k, x + 1)) := ofE_no he HO.out hrz
        have cP : Calls Tryz.prog 29 #[.pointer (some ⟨g, 0, none⟩), ovV d] (wr.alloc (.cells (ovC d) 33)) fun r w' => r = .returned (errV a x) ∧ Below (wr.alloc (.cells (ovC d) 33)).heap.size (wr.alloc (.cells (ovC d) 33)) w' := by
          unfold refE at hrz
          by_cases ho : opE e = 0
          · rw [if_neg (by simpa using ho)] at hrz
            by_cases hov : 1099511627776 < sumB (E.take k) + baseO e ∨ 1099511627776 < sumR (E.take k) + resO e
            · rw [if_pos hov] at hrz
              obtain rfl : x = 10 := by omega
              exact cL (E.take k) ho HGa.out HO.out hov
            · rw [if_neg hov] at hrz; cases hrz
          · rw [if_pos ho] at hrz
            exact cB x hrz
        clear cB cL cG HG HGa HO hp hd he hrz HT
        obtain ⟨dk, dt, ⟨dx, dn, du⟩, dc, ds⟩ := d
        obtain ⟨dp, dl, dcap⟩ := ds
        simp only [slV, ovC, ovV] at c0 c1 c2 c3 c4 c5 c6 cP ba bw
        go_wp2_with fail
        refine cP.mono ?_; rintro r w5 ⟨rfl, hb5⟩
        have b5 := ba.trans (hb5.mono ba.size)
        clear cP c0 c1 c2 c3 c4 c5 c6 ba bw hb5
        go_wp2
        go_ret3
        exact ⟨.pointer none, by rw [HB.out]; rfl, fun h => (by rw [HB.out] at h; cases h), fun _ => rfl, b5⟩
    · have hltI : ¬ (k : Int) < n := by omega
      have hE : E.take k = E := List.take_of_length_le (by rw [HN.out.2]; omega)
      rw [hE] at HG HO
      have HB : Hid (ofE 0 0 E = (0, 0)) := ofE_ok E 0 0 HO.out.good (by have := HO.out.base; omega) (by have := HO.out.res; omega)
      have cD := delta_any wr HG.out HO.out
      clear hE HG HO
      go_wp2_with fail
      refine cD.mono ?_; rintro r w5 ⟨dv, rfl, h5, hb5⟩
      have H5 : Hid (DelV w5 w.heap.size w.heap.size dv (canonL E)) := by
        obtain ⟨q, pv, PL, x1, x2, x3, x4, x5⟩ := h5
        exact ⟨q, pv, PL, x1, Nat.le_trans hbw.size x2, x3, own_weaken x4 hbw.size, x5⟩
      have b5 := hbw.trans (hb5.mono hbw.size)
      clear cD h5 hb5
      go_wp2
      go_ret3
      exact ⟨dv, by rw [HB.out]; rfl, fun _ => H5.out, fun h => absurd (by rw [HB.out]) h, b5⟩
end Go.Proofs.YtplnojapnaaakaaGreatDoor

/- A delta gone through in pieces, purely. -/
namespace Go.Proofs.YtplnojapnaaakaaGreatDoor
open Go Go.RowKit Go.Lib
set_option linter.unusedVariables false
/-- The first n cells of an operation that has more, and the others. -/
def hd7 (o : Op5) (n : Int) : Op5 := if o.k = 1 then headO o n.toNat else ⟨o.k, o.t, o.v, n, o.A⟩
def tl7 (o : Op5) (n : Int) : Op5 := if o.k = 1 then tailO o n.toNat else ⟨o.k, o.t, o.v, o.c - n, o.A⟩
/-- A plain retain. -/
def pl7 (n : Int) : Op5 := ⟨3, ⟨#[]⟩, z0, n, []⟩
/-- A piece of at most n cells, and what is left. -/
def nx7 : List Op5 → Int → Op5 × List Op5
  | [], n => (pl7 (min n 1099511627776), [])
  | o :: r, n => if len5 o ≤ n then (o, r) else (hd7 o n, tl7 o n :: r)
def left7 : List Op5 → Int
  | [] => 1099511627776
  | o :: _ => len5 o
def kind7 : List Op5 → Int
  | [] => 3
  | o :: _ => o.k
theorem nx_all {o : Op5} {r : List Op5} {n : Int} (h : len5 o ≤ n) : nx7 (o :: r) n = (o, r) := if_pos h
theorem nx_part {o : Op5} {r : List Op5} {n : Int} (h : ¬ len5 o ≤ n) : nx7 (o :: r) n = (hd7 o n, tl7 o n :: r) := if_neg h
theorem pl_good {n : Int} (h1 : 1 ≤ n) (h2 : n ≤ 1099511627776) : opE (pl7 n) = 0 ∧ len5 (pl7 n) = n := by
  have h : cntE (pl7 n) = 0 := cnt_iff.2 ⟨by kernel_rfl, rfl, h1, h2⟩
  refine ⟨?_, by unfold len5; rw [if_neg (by show ¬ ((3 : Int) = 1 ∨ (3 : Int) = 2); decide)]; rfl⟩
  unfold opE
  rw [if_neg (by show ¬ ((3 : Int) = 1 ∨ (3 : Int) = 2); decide), if_pos (show (pl7 n).k = 3 from rfl), if_neg (by rw [h]; decide)]
  rfl

/-- What a cut operation's two pieces are. -/
structure Cut7 (o : Op5) (n : Int) : Prop where
  nk : o.k ≠ 2
  h0 : opE (hd7 o n) = 0
  t0 : opE (tl7 o n) = 0
  hk : (hd7 o n).k = o.k
  tk : (tl7 o n).k = o.k
  hA : (hd7 o n).A = o.A
  tA : (tl7 o n).A = o.A
  hl : len5 (hd7 o n) = n
  tl : len5 (tl7 o n) = len5 o - n
  hz : (hd7 o n).t.size ≤ o.t.size
  tz : (tl7 o n).t.size ≤ o.t.size
  hv : (hd7 o n).v = o.v
  tv : (tl7 o n).v = o.v
  un : unitsO o = unitsO (hd7 o n) ++ unitsO (tl7 o n)
theorem opE_12 {o : Op5} (h : Ins o) (hk : o.k = 1 ∨ o.k = 2) : opE o = 0 := by
  unfold opE; rw [if_pos hk]; exact h.zero
theorem opE_3 {o : Op5} (h : Cnt o) (hA : listE true none o.A = 0) (hk : o.k = 3) : opE o = 0 := by
  unfold opE
  rw [if_neg (by omega), if_pos hk, if_neg (by rw [cnt_iff.2 h]; decide)]
  exact hA
theorem opE_4 {o : Op5} (h : Cnt o) (hA : o.A = []) (hk : o.k = 4) : opE o = 0 := by
  unfold opE
  rw [if_neg (by omega), if_neg (by omega), if_pos hk, if_neg (by rw [hA]; simp)]
  exact cnt_iff.2 h
theorem cut7 {o : Op5} {n : Int} (h : opE o = 0) (h1 : 1 ≤ n) (h2 : n < len5 o) : Cut7 o n := by
  rcases op_good h with ⟨hi, hk⟩ | ⟨hc, hA, hk⟩ | ⟨hc, hA, hk⟩
  · have e : len5 o = (lenO o : Int) := by unfold len5; rw [if_pos hk]
    rw [e] at h2
    obtain ⟨k1, kl⟩ := lenO_2 hi (by omega)
    obtain ⟨m, rfl⟩ : ∃ m : Nat, n = m := ⟨n.toNat, by omega⟩
    have hm : m < (scs o.t.data.toList).length := by omega
    have e1 : hd7 o m = headO o m := by unfold hd7; rw [if_pos k1]; rfl
    have e2 : tl7 o m = tailO o m := by unfold tl7; rw [if_pos k1]; rfl
    obtain ⟨a1, a2⟩ := ins_head hi (m := m) (by omega) hm
    obtain ⟨b1, b2⟩ := ins_tail hi (m := m) hm
    have hv : o.v = z0 := by
      rcases hi.kind with ⟨_, hv⟩ | ⟨h2, _⟩
      · exact hv
      · omega
    have hc := cells_cut hi k1 (m := m) (by omega) hm
    refine ⟨by omega, ?_, ?_, ?_, ?_, ?_, ?_, ?_, ?_, ?_, ?_, ?_, ?_, ?_⟩
    · rw [e1]; exact opE_12 a1 (.inl rfl)
    · rw [e2]; exact opE_12 b1 (.inl rfl)
    · rw [e1, k1]; rfl
    · rw [e2, k1]; rfl
    · rw [e1]; rfl
    · rw [e2]; rfl
    · rw [e1]; unfold len5; rw [if_pos (show (headO o m).k = 1 ∨ _ from .inl rfl), a2]
    · rw [e2, e]; unfold len5; rw [if_pos (show (tailO o m).k = 1 ∨ _ from .inl rfl), b2, kl]; omega
    · rw [e1]; exact size_head o m
    · rw [e2]; exact size_tail o m
    · rw [e1, hv]; rfl
    · rw [e2, hv]; rfl
    · rw [e1, e2, unitsO_1 (.inl k1), unitsO_1 (o := headO o m) (.inl rfl), unitsO_1 (o := tailO o m) (.inl rfl), hc, List.map_append]
  · have e : len5 o = o.c := by unfold len5; rw [if_neg (by omega)]
    rw [e] at h2
    have hh := hc.hi
    have e1 : hd7 o n = ⟨o.k, o.t, o.v, n, o.A⟩ := if_neg (by omega)
    have e2 : tl7 o n = ⟨o.k, o.t, o.v, o.c - n, o.A⟩ := if_neg (by omega)
    have c1 : Cnt (hd7 o n) := by rw [e1]; exact ⟨hc.text, hc.val, h1, by show n ≤ _; omega⟩
    have c2 : Cnt (tl7 o n) := by rw [e2]; exact ⟨hc.text, hc.val, by show 1 ≤ o.c - n; omega, by show o.c - n ≤ _; omega⟩
    refine ⟨by omega, opE_3 c1 (by rw [e1]; exact hA) (by rw [e1]; exact hk), opE_3 c2 (by rw [e2]; exact hA) (by rw [e2]; exact hk), by rw [e1], by rw [e2], by rw [e1], by rw [e2], ?_, ?_, by rw [e1]; exact Nat.le_refl _, by rw [e2]; exact Nat.le_refl _, by rw [e1], by rw [e2], ?_⟩
    · rw [e1]; unfold len5; rw [if_neg (by show ¬ (o.k = 1 ∨ o.k = 2); omega)]
    · rw [e2, e]; unfold len5; rw [if_neg (by show ¬ (o.k = 1 ∨ o.k = 2); omega)]
    · rw [e1, e2, unitsO_3 hk, unitsO_3 (o := ⟨o.k, o.t, o.v, n, o.A⟩) hk, unitsO_3 (o := ⟨o.k, o.t, o.v, o.c - n, o.A⟩) hk]
      show List.replicate o.c.toNat _ = List.replicate n.toNat _ ++ List.replicate (o.c - n).toNat _
      rw [List.replicate_append_replicate]
      congr 1; omega
  · have e : len5 o = o.c := by unfold len5; rw [if_neg (by omega)]
    rw [e] at h2
    have hh := hc.hi
    have e1 : hd7 o n = ⟨o.k, o.t, o.v, n, o.A⟩ := if_neg (by omega)
    have e2 : tl7 o n = ⟨o.k, o.t, o.v, o.c - n, o.A⟩ := if_neg (by omega)
    have c1 : Cnt (hd7 o n) := by rw [e1]; exact ⟨hc.text, hc.val, h1, by show n ≤ _; omega⟩
    have c2 : Cnt (tl7 o n) := by rw [e2]; exact ⟨hc.text, hc.val, by show 1 ≤ o.c - n; omega, by show o.c - n ≤ _; omega⟩
    refine ⟨by omega, opE_4 c1 (by rw [e1]; exact hA) (by rw [e1]; exact hk), opE_4 c2 (by rw [e2]; exact hA) (by rw [e2]; exact hk), by rw [e1], by rw [e2], by rw [e1], by rw [e2], ?_, ?_, by rw [e1]; exact Nat.le_refl _, by rw [e2]; exact Nat.le_refl _, by rw [e1], by rw [e2], ?_⟩
    · rw [e1]; unfold len5; rw [if_neg (by show ¬ (o.k = 1 ∨ o.k = 2); omega)]
    · rw [e2, e]; unfold len5; rw [if_neg (by show ¬ (o.k = 1 ∨ o.k = 2); omega)]
    · rw [e1, e2, unitsO_4 hk, unitsO_4 (o := ⟨o.k, o.t, o.v, n, o.A⟩) hk, unitsO_4 (o := ⟨o.k, o.t, o.v, o.c - n, o.A⟩) hk]
      show List.replicate o.c.toNat _ = List.replicate n.toNat _ ++ List.replicate (o.c - n).toNat _
      rw [List.replicate_append_replicate]
      congr 1; omega
theorem len5_pos {o : Op5} (h : opE o = 0) : 1 ≤ len5 o := by
  rcases op_good h with ⟨hi, hk⟩ | ⟨hc, hA, hk⟩ | ⟨hc, hA, hk⟩
  · unfold len5; rw [if_pos hk]; have := lenO_pos hi; omega
  · unfold len5; rw [if_neg (by omega)]; exact hc.lo
  · unfold len5; rw [if_neg (by omega)]; exact hc.lo

/-- What is left of a canonical delta is canonical, and fits as it did. -/
structure Rst (E : List Op5) (N T K : Nat) : Prop where
  good : ∀ o ∈ E, opE o = 0
  fit : ∀ o ∈ E, FitA o
  txt : txtS E ≤ T
  attr : ∀ o ∈ E, o.A.length ≤ K
  len : E.length ≤ N
  chain : chainB E = true
  last : lastP E = true
  base : sumB E ≤ 1099511627776
  res : sumR E ≤ 1099511627776
theorem Rst.size {E : List Op5} {N T K : Nat} (h : Rst E N T K) : ∀ o ∈ E, o.t.size ≤ T := fun o ho => Nat.le_trans (txtS_mem ho) h.txt
theorem txtS_cons (o : Op5) (r : List Op5) : txtS (o :: r) = o.t.size + txtS r := by unfold txtS; rfl
theorem Rst.okE {E : List Op5} {N T K : Nat} (h : Rst E N T K) (hT : T ≤ 8388608) (hN : N ≤ 4194304) : OkE E :=
  ⟨h.good, h.fit, Nat.le_trans h.txt hT, Nat.le_trans h.len hN, h.base, h.res⟩
theorem Rst.nil (N T K : Nat) : Rst [] N T K := ⟨fun _ h => (by cases h), fun _ h => (by cases h), Nat.zero_le _, fun _ h => (by cases h), Nat.zero_le _, rfl, rfl, by show (0 : Int) ≤ _; omega, by show (0 : Int) ≤ _; omega⟩
theorem lastP_cons {x y : Op5} {r : List Op5} : lastP (x :: y :: r) = lastP (y :: r) := by
  unfold lastP
  rw [List.getLast?_cons_cons]
theorem Rst.tail {x : Op5} {r : List Op5} {N T K : Nat} (h : Rst (x :: r) N T K) : Rst r N T K := by
  have hx := wel_of (h.good x (List.mem_cons_self ..))
  refine ⟨fun o ho => h.good o (List.mem_cons_of_mem _ ho), fun o ho => h.fit o (List.mem_cons_of_mem _ ho), by have := h.txt; rw [txtS_cons] at this; omega, fun o ho => h.attr o (List.mem_cons_of_mem _ ho), by have := h.len; simp at this; omega, chain_tail h.chain, ?_, by have := h.base; rw [sumB_cons] at this; have := base_nn hx; omega, by have := h.res; rw [sumR_cons] at this; have := res_nn hx; omega⟩
  cases r with
  | nil => rfl
  | cons y r => rw [← lastP_cons]; exact h.last
theorem apart_same {x x' y : Op5} (hk : x'.k = x.k) (hA : x'.A = x.A) : apartB x' y = apartB x y := by unfold apartB; rw [hk, hA]
theorem plain_same {x x' : Op5} (hk : x'.k = x.k) (hA : x'.A = x.A) : plainR x' = plainR x := by unfold plainR; rw [hk, hA]
theorem Rst.part {x : Op5} {r : List Op5} {N T K : Nat} (h : Rst (x :: r) N T K) {n : Int} (h1 : 1 ≤ n) (h2 : ¬ len5 x ≤ n) : Rst (tl7 x n :: r) N T K := by
  have hx := h.good x (List.mem_cons_self ..)
  have c := cut7 hx h1 (by omega)
  have fx := h.fit x (List.mem_cons_self ..)
  have eb : baseO (tl7 x n) ≤ baseO x := by unfold baseO; rw [c.tk, c.tl]; split <;> omega
  have er : resO (tl7 x n) ≤ resO x := by unfold resO; rw [c.tk, c.tl]; split <;> omega
  refine ⟨fun o ho => ?_, fun o ho => ?_, ?_, fun o ho => ?_, by have := h.len; simp at this ⊢; omega, ?_, ?_, by have := h.base; rw [sumB_cons] at this ⊢; omega, by have := h.res; rw [sumR_cons] at this ⊢; omega⟩
  · rcases List.mem_cons.1 ho with rfl | ho
    · exact c.t0
    · exact h.good o (List.mem_cons_of_mem _ ho)
  · rcases List.mem_cons.1 ho with rfl | ho
    · exact ⟨by rw [c.tv]; exact fx.v, by rw [c.tA]; exact fx.A, by rw [c.tA]; exact fx.n⟩
    · exact h.fit o (List.mem_cons_of_mem _ ho)
  · have := h.txt
    have := c.tz
    rw [txtS_cons] at *
    omega
  · rcases List.mem_cons.1 ho with rfl | ho
    · rw [c.tA]; exact h.attr x (List.mem_cons_self ..)
    · exact h.attr o (List.mem_cons_of_mem _ ho)
  · cases r with
    | nil => rfl
    | cons y r =>
      have := h.chain
      unfold chainB at this ⊢
      rw [apart_same c.tk c.tA]; exact this
  · cases r with
    | nil =>
      have := h.last
      unfold lastP at this ⊢
      simp only [List.getLast?_singleton] at this ⊢
      rw [plain_same c.tk c.tA]; exact this
    | cons y r => rw [lastP_cons]; rw [← lastP_cons (x := x)]; exact h.last
theorem Rst.next {R : List Op5} {N T K : Nat} (h : Rst R N T K) {n : Int} (h1 : 1 ≤ n) : Rst (nx7 R n).2 N T K := by
  cases R with
  | nil => exact h
  | cons x r =>
    by_cases hn : len5 x ≤ n
    · rw [nx_all hn]; exact h.tail
    · rw [nx_part hn]; exact h.part h1 hn
theorem Rst.fitOne {x : Op5} {r : List Op5} {N T K : Nat} (h : Rst (x :: r) N T K) {n : Int} (h1 : 1 ≤ n) (h2 : ¬ len5 x ≤ n) : FitA (hd7 x n) := by
  have c := cut7 (h.good x (List.mem_cons_self ..)) h1 (by omega)
  have fx := h.fit x (List.mem_cons_self ..)
  exact ⟨by rw [c.hv]; exact fx.v, by rw [c.hA]; exact fx.A, by rw [c.hA]; exact fx.n⟩
/-- A piece that is taken is good, and has as many cells as asked for, or as there are. -/
theorem Rst.piece {R : List Op5} {N T K : Nat} (h : Rst R N T K) {n : Int} (h1 : 1 ≤ n) : opE (nx7 R n).1 = 0 ∧ FitA (nx7 R n).1 ∧ (nx7 R n).1.t.size ≤ T ∧ (nx7 R n).1.A.length ≤ K ∧ len5 (nx7 R n).1 = min n (left7 R) ∧ (nx7 R n).1.k = kind7 R := by
  cases R with
  | nil =>
    obtain ⟨p1, p2⟩ := pl_good (n := min n 1099511627776) (by omega) (by omega)
    exact ⟨p1, ⟨Nat.zero_le _, fun _ h => (by cases h), Nat.zero_le _⟩, Nat.zero_le _, Nat.zero_le _, p2, rfl⟩
  | cons x r =>
    have hx := h.good x (List.mem_cons_self ..)
    by_cases hn : len5 x ≤ n
    · rw [nx_all hn]
      exact ⟨hx, h.fit x (List.mem_cons_self ..), h.size x (List.mem_cons_self ..), h.attr x (List.mem_cons_self ..), by show len5 x = min n (len5 x); omega, rfl⟩
    · rw [nx_part hn]
      have c := cut7 hx h1 (by omega)
      exact ⟨c.h0, h.fitOne h1 hn, Nat.le_trans c.hz (h.size x (List.mem_cons_self ..)), by rw [c.hA]; exact h.attr x (List.mem_cons_self ..), by rw [c.hl]; show n = min n (len5 x); omega, c.hk⟩
/-- What has been taken and what is left have the units that were. -/
theorem Rst.units {R : List Op5} {N T K : Nat} (h : Rst R N T K) {n : Int} (h1 : 1 ≤ n) (h0 : R ≠ []) : units R = unitsO (nx7 R n).1 ++ units (nx7 R n).2 := by
  cases R with
  | nil => exact absurd rfl h0
  | cons x r =>
    by_cases hn : len5 x ≤ n
    · rw [nx_all hn]; rfl
    · rw [nx_part hn]
      have c := cut7 (h.good x (List.mem_cons_self ..)) h1 (by omega)
      show unitsO x ++ _ = unitsO (hd7 x n) ++ (unitsO (tl7 x n) ++ _)
      rw [c.un, List.append_assoc]
theorem Rst.wel {R : List Op5} {N T K : Nat} (h : Rst R N T K) : ∀ o ∈ R, Wel o := fun o ho => wel_of (h.good o ho)
end Go.Proofs.YtplnojapnaaakaaGreatDoor

/- A loop over a function whose function writes memory of its own between two rounds, and asks for rounds at what it has laid. -/
namespace Go.Proofs.YtplnojapnaaakaaGreatDoor
open Go Go.RowKit
set_option linter.unusedVariables false
/-- What has turned is no cells, and lies at B or beyond. -/
structure Bk7 (B : Nat) (A A' : World) : Prop where
  os : A'.os = A.os
  tape : A'.tape = A.tape
  output : A'.output = A.output
  size : A.heap.size ≤ A'.heap.size
  kept : ∀ (k : Nat) (o : Obj), A.heap[k]? = some o → (k < B ∨ o.isCells = true) → A'.heap[k]? = some o
/-- What has turned is cells of certain types, at B or beyond. -/
structure It7 (T : TypeId → Prop) (B : Nat) (A A' : World) : Prop where
  os : A'.os = A.os
  tape : A'.tape = A.tape
  output : A'.output = A.output
  size : A.heap.size ≤ A'.heap.size
  kept : ∀ (k : Nat) (o : Obj), A.heap[k]? = some o → (k < B ∨ ¬ ∃ cs t fz, o = .cells cs t fz ∧ T t) → A'.heap[k]? = some o
/-- Cells of other types, and what lies below B, are as they were. -/
structure Tr7 (T : TypeId → Prop) (B : Nat) (A A' : World) : Prop where
  os : A'.os = A.os
  tape : A'.tape = A.tape
  output : A'.output = A.output
  size : A.heap.size ≤ A'.heap.size
  kept : ∀ (k : Nat) (o : Obj), A.heap[k]? = some o → (k < B ∨ ∃ cs t fz, o = .cells cs t fz ∧ ¬ T t) → A'.heap[k]? = some o
theorem Bk7.tr {T : TypeId → Prop} {B : Nat} {A A' : World} (h : Bk7 B A A') : Tr7 T B A A' :=
  ⟨h.os, h.tape, h.output, h.size, fun k o hk ho => h.kept k o hk (ho.imp id (fun ⟨cs, t, fz, e, _⟩ => by rw [e]; rfl))⟩
theorem It7.tr {T : TypeId → Prop} {B B' : Nat} {A A' : World} (h : It7 T B A A') (hB : B' ≤ B) : Tr7 T B' A A' :=
  ⟨h.os, h.tape, h.output, h.size, fun k o hk ho => h.kept k o hk (ho.elim (fun q => .inl (by omega)) (fun ⟨cs, t, fz, e, hn⟩ => .inr (fun ⟨cs', t', fz', e', ht⟩ => by rw [e] at e'; cases e'; exact hn ht)))⟩
theorem Bk7.refl (B : Nat) (A : World) : Bk7 B A A := ⟨rfl, rfl, rfl, Nat.le_refl _, fun _ _ h _ => h⟩
theorem Bk7.trans {B : Nat} {X Y Z : World} (h : Bk7 B X Y) (k : Bk7 B Y Z) : Bk7 B X Z :=
  ⟨k.os.trans h.os, k.tape.trans h.tape, k.output.trans h.output, Nat.le_trans h.size k.size, fun i o hi ho => k.kept i o (h.kept i o hi ho) ho⟩
theorem Tr7.refl (T : TypeId → Prop) (B : Nat) (A : World) : Tr7 T B A A := ⟨rfl, rfl, rfl, Nat.le_refl _, fun _ _ h _ => h⟩
theorem Tr7.trans {T : TypeId → Prop} {B : Nat} {X Y Z : World} (h : Tr7 T B X Y) (k : Tr7 T B Y Z) : Tr7 T B X Z :=
  ⟨k.os.trans h.os, k.tape.trans h.tape, k.output.trans h.output, Nat.le_trans h.size k.size, fun i o hi ho => k.kept i o (h.kept i o hi ho) ho⟩
theorem It7.refl (T : TypeId → Prop) (B : Nat) (A : World) : It7 T B A A := ⟨rfl, rfl, rfl, Nat.le_refl _, fun _ _ h _ => h⟩
theorem It7.trans {T : TypeId → Prop} {B : Nat} {X Y Z : World} (h : It7 T B X Y) (k : It7 T B Y Z) : It7 T B X Z :=
  ⟨k.os.trans h.os, k.tape.trans h.tape, k.output.trans h.output, Nat.le_trans h.size k.size, fun i o hi ho => k.kept i o (h.kept i o hi ho) ho⟩
theorem Bk7.put {B l : Nat} {W : World} {o : Obj} (o' : Obj) (hB : B ≤ l) (hl : W.heap[l]? = some o) (ho : o.isCells = false) : Bk7 B W (W.putObj l o') :=
  ⟨rfl, rfl, rfl, by simp, fun k x hk hx => by
    have : k ≠ l := fun e => by
      subst e; rw [hl] at hk; cases hk
      rcases hx with hx | hx
      · omega
      · simp [ho] at hx
    exact (World.putObj_heap_other this).trans hk⟩
theorem Bk7.alloc (B : Nat) (W : World) (o : Obj) : Bk7 B W (W.alloc o) :=
  ⟨rfl, rfl, rfl, by simp, fun k x hk _ => (Below.heap_alloc _ _ _ (Array.getElem?_eq_some_iff.1 hk).1).trans hk⟩
theorem Tr7.of_below {T : TypeId → Prop} {B : Nat} {A A' : World} (h : Below A.heap.size A A') : Tr7 T B A A' :=
  ⟨h.os, h.tape, h.output, h.size, fun k o hk _ => (h.block k (Array.getElem?_eq_some_iff.1 hk).1).trans hk⟩
theorem It7.of_below {T : TypeId → Prop} {B : Nat} {A A' : World} (h : Below A.heap.size A A') : It7 T B A A' :=
  ⟨h.os, h.tape, h.output, h.size, fun k o hk _ => (h.block k (Array.getElem?_eq_some_iff.1 hk).1).trans hk⟩
theorem Tr7.below {T : TypeId → Prop} {B : Nat} {A A' : World} (h : Tr7 T B A A') (hB : B ≤ A.heap.size) : Below B A A' :=
  ⟨h.os, h.tape, h.output, h.size, fun k hk => by
    have hl : k < A.heap.size := by omega
    rw [h.kept k A.heap[k] (Array.getElem?_eq_getElem hl) (.inl hk), Array.getElem?_eq_getElem hl]⟩

/-- The contract of a function to be ranged over: it asks for a round at x behind pre where G holds; the round keeps Kp. -/
def SeqG {α : Type} (F : Fence) (n : Nat) (P : Program) (g : Nat) (lb : Array Value) (encs : α → Array Value) (T : TypeId → Prop)
    (G : List α → α → World → Prop) (Kp : List α → α → World → World → Prop) (S : List α → Prop) (w0 : World) : Prop :=
  ∀ (l : Nat) (J Jx : List α → World → Prop) (W : World), Below w0.heap.size w0 W →
    (∀ s A A', J s A → It7 T W.heap.size A A' → J s A') → (∀ s A A', Jx s A → It7 T W.heap.size A A' → Jx s A') →
    (∀ pre x W1, J pre W1 → G pre x W1 → YieldAt F (n - 1) P l (encs x) W1 fun e W' =>
      (e = .returned (.bool true) ∧ J (pre ++ [x]) W' ∧ Kp pre x W1 W') ∨ (e = .returned (.bool false) ∧ Jx (pre ++ [x]) W')) →
    J [] W →
    CallsIn F n P g (#[.func (.yield l) #[] #[]] ++ lb) W fun e W' => (∃ v, e = .returned v) ∧ ((∃ xs, S xs ∧ J xs W') ∨ (∃ pre, Jx pre W'))

/-- How a round's body may be left. -/
def gPost {α : Type} (B : Nat) (Kp : List α → α → World → World → Prop) (I : List α → World → Prop) (Ix : Code → List α → World → Prop) (pre : List α) (x : α) (W : World) : Exit → Act → World → Prop
  | .normal, _, W' => KeepsFrom B W W' ∧ Kp pre x W W' ∧ I (pre ++ [x]) W'
  | .ret, _, W' => KeepsFrom B W W' ∧ Ix .ret (pre ++ [x]) W'
  | .exit id, _, W' => KeepsFrom B W W' ∧ Ix (.exit id) (pre ++ [x]) W'
  | .goto t, _, W' => KeepsFrom B W W' ∧ Ix (.goto t) (pre ++ [x]) W'
  | .panic _, _, _ => False
  | .outgrown, _, _ => False

variable {F : Fence} {n : Nat} {P : Program}
theorem wpIn_rangeFunc_G {α : Type} {g : Operand} {ps : Array Tmp} {assign body : Code} {Q : Exit → Act → World → Prop} {a : Act} {w : World}
    (hro : F.round = none) (h1 : 1 ≤ n) {gf : Nat} {lb : Array Value} (hg : a.eval g = .func (.func gf) #[] lb) (hFg : F.fn gf) (eg : ∀ args w, (callFunc gf args).run P w = .ok (.enter gf args) w)
    {encs : α → Array Value} {T : TypeId → Prop} {G : List α → α → World → Prop} {Kp : List α → α → World → World → Prop} {S : List α → Prop} {w0 : World}
    (hseq : SeqG F (n - 1) P gf lb encs T G Kp S w0) (hb0 : Below w0.heap.size w0 w) (hps : ∀ x, (encs x).size = ps.size)
    (hG : ∀ pre x A A', G pre x A → Bk7 w.heap.size A A' → G pre x A')
    (hK : ∀ pre x A A' B B', Bk7 w.heap.size A A' → Kp pre x A' B → Bk7 w.heap.size B B' → Kp pre x A B')
    (I : List α → World → Prop) (Ix : Code → List α → World → Prop)
    (hI : ∀ s A A', I s A → Tr7 T w.heap.size A A' → I s A') (hIx : ∀ c s A A', Ix c s A → Tr7 T w.heap.size A A' → Ix c s A') (h0 : I [] w) (a₁ : α → Act)
    (hassign : ∀ (l : Nat) (x : α) (W : World) (K : Act → World → Prop), K (a₁ x) W →
      assign.wpIn (F.inRound l) (n - 1 - 1) P (Exit.then K (fun _ _ _ => False)) { tmps := (ps.zip (encs x)).foldl (fun t (p, v) => t.setIfInBounds p v) a.tmps, defers := [] } W)
    (hbody : ∀ (l : Nat) (pre : List α) (x : α) (W : World), I pre W → G pre x W → body.wpIn (F.inRound l) (n - 1 - 1) P (gPost w.heap.size Kp I Ix pre x W) (a₁ x) W)
    (hdone : ∀ (D : Nat) (xs : List α) (W : World), w.heap.size ≤ D → S xs → I xs W → W.heap[D]? = some (.deferred (some [])) → Q .normal { a with defers := { target := .collected D, args := #[] } :: a.defers } W)
    (hstop : ∀ (D : Nat) (c : Code) (pre : List α) (W : World), w.heap.size ≤ D → Ix c pre W → W.heap[D]? = some (.deferred (some [])) → c.wpIn F n P Q { a with defers := { target := .collected D, args := #[] } :: a.defers } W) :
    (Code.rangeFunc g ps assign body).wpIn F n P Q a w := by
  refine wpIn_rangeFunc fun fn hfn => ?_
  rw [hro]
  obtain ⟨rc, hrc⟩ : ∃ rc : LoopState → Option Code → Loop, ∀ s p, rc s p = { state := s, pending := p, fn, tmps := a.tmps, params := ps, assign, body, defers := w.heap.size } := ⟨_, fun _ _ => rfl⟩
  -- the record and the block for deferred calls
  obtain ⟨L, hL⟩ : ∃ L : Option Obj → World → Prop, ∀ o W, L o W = (W.heap[w.heap.size + 1]? = o ∧ W.heap[w.heap.size]? = some (.deferred (some []))) := ⟨_, fun _ _ => rfl⟩
  obtain ⟨W1, hW1⟩ : ∃ W1, (w.alloc (.deferred (some []))).alloc (.loop (rc .ready none)) = W1 := ⟨_, rfl⟩
  have bk1 : Bk7 w.heap.size w W1 := by rw [← hW1]; exact (Bk7.alloc _ _ _).trans (Bk7.alloc _ _ _)
  have hL1 : L (some (.loop (rc .ready none))) W1 := by
    rw [hL, ← hW1]
    have e := World.alloc_heap_new (w.alloc (.deferred (some []))) (.loop (rc .ready none))
    rw [World.size_alloc] at e
    exact ⟨e, (Below.heap_alloc _ _ _ (by simp)).trans (World.alloc_heap_new w _)⟩
  have put : ∀ (o : Obj) (r : Loop) (W : World), L (some (.loop r)) W → L (some o) (W.putObj (w.heap.size + 1) o) ∧ Bk7 w.heap.size W (W.putObj (w.heap.size + 1) o) := fun o r W h => by
    rw [hL] at h ⊢
    exact ⟨⟨World.putObj_heap_same (Array.getElem?_eq_some_iff.1 h.1).1, (World.putObj_heap_other (by omega)).trans h.2⟩, Bk7.put _ (by omega) h.1 rfl⟩
  have trL : ∀ (r : Loop) (A A' : World), L (some (.loop r)) A → It7 T W1.heap.size A A' → L (some (.loop r)) A' := fun r A A' h k => by
    rw [hL] at h ⊢
    exact ⟨k.kept _ _ h.1 (.inr (fun ⟨_, _, _, e, _⟩ => by cases e)), k.kept _ _ h.2 (.inr (fun ⟨_, _, _, e, _⟩ => by cases e))⟩
  have hz : w.heap.size ≤ W1.heap.size := bk1.size
  refine ⟨w.heap.size + 1, [{ target := .collected w.heap.size, args := #[] }], W1, { target := .fn (.func gf) lb, args := #[.func (.yield (w.heap.size + 1)) #[] #[]] }, W1, gf,
    #[.func (.yield (w.heap.size + 1)) #[] #[]] ++ lb, W1, ?_, ?_, ?_, ?_, fun _ => h1, ?_⟩
  · rw [← hW1, hrc]; exact run_enterLoop_outer _ _ _ _ _
  · simp only [resolve, hg]
    simp [go_sem]
  · intro f' hf'; simp [Target.leads] at hf'; subst hf'; exact hFg
  · simp [invoke, go_sem, eg]
  · refine (hseq (w.heap.size + 1) (fun pre W => I pre W ∧ L (some (.loop (rc .ready none))) W) (fun pre W => ∃ c, Ix c pre W ∧ L (some (.loop (rc .done (some c)))) W) W1
      (hb0.trans ((Tr7.below (bk1.tr (T := T)) (Nat.le_refl _)).mono hb0.size))
      (fun s A A' h k => ⟨hI s A A' h.1 (k.tr hz), trL _ _ _ h.2 k⟩) (fun s A A' ⟨c, h, h'⟩ k => ⟨c, hIx c s A A' h (k.tr hz), trL _ _ _ h' k⟩) ?_ ⟨hI _ _ _ h0 bk1.tr, hL1⟩).mono ?_
    · rintro pre x W ⟨hi, hl⟩ hg
      obtain ⟨q1, q2⟩ := put (.loop (rc .busy none)) _ W hl
      have hlp := (show L (some (.loop (rc .ready none))) W from hl)
      rw [hL] at hlp
      have hy := run_yield (P := P) (args := encs x) hlp.1 (by rw [hrc]; exact hps x)
      rw [hrc] at hy
      refine ⟨fn, _, assign, body, hy, roundIn_of_wpIn hfn (hassign _ x W _ ⟨_, run_beginRound hlp.1 (by rw [hrc]), ?_⟩)⟩
      have eb : ({ rc .ready none with state := LoopState.busy } : Loop) = rc .busy none := by rw [hrc, hrc]
      rw [eb]
      refine wpIn_mono (hbody _ pre x _ (hI _ _ _ hi q2.tr) (hG _ _ _ _ hg q2)) ?_
      have fin : ∀ (jump : Option Code) (W3 : World), KeepsFrom w.heap.size (W.putObj (w.heap.size + 1) (.loop (rc .busy none))) W3 →
          (Instr.endRound (w.heap.size + 1) jump).run P W3 = .ok (.bool jump.isNone) (W3.putObj (w.heap.size + 1) (.loop (rc (if jump.isNone then .ready else .done) jump))) ∧
          L (some (.loop (rc (if jump.isNone then .ready else .done) jump))) (W3.putObj (w.heap.size + 1) (.loop (rc (if jump.isNone then .ready else .done) jump))) ∧
          Bk7 w.heap.size W3 (W3.putObj (w.heap.size + 1) (.loop (rc (if jump.isNone then .ready else .done) jump))) := fun jump W3 k3 => by
        have l3 : L (some (.loop (rc .busy none))) W3 := by
          rw [hL] at q1 ⊢
          exact ⟨k3.same _ _ (by omega) q1.1 rfl, k3.same _ _ (Nat.le_refl _) q1.2 rfl⟩
        obtain ⟨p1, p2⟩ := put (.loop (rc (if jump.isNone then .ready else .done) jump)) _ W3 l3
        rw [hL] at l3
        have e := run_endRound (P := P) jump l3.1
        rw [hrc] at e
        exact ⟨by rw [hrc]; exact e, p1, p2⟩
      rintro e a3 W3 hp
      cases e with
      | normal =>
        obtain ⟨k3, kp, hi3⟩ := hp
        obtain ⟨r1, r2, r3⟩ := fin none W3 k3
        exact ⟨_, _, r1, .inl ⟨rfl, ⟨hI _ _ _ hi3 r3.tr, r2⟩, hK _ _ _ _ _ _ q2 kp r3⟩⟩
      | ret =>
        obtain ⟨k3, hi3⟩ := hp
        obtain ⟨r1, r2, r3⟩ := fin (some .ret) W3 k3
        exact ⟨_, _, r1, .inr ⟨rfl, _, hIx _ _ _ _ hi3 r3.tr, r2⟩⟩
      | exit id =>
        obtain ⟨k3, hi3⟩ := hp
        obtain ⟨r1, r2, r3⟩ := fin (some (.exit id)) W3 k3
        exact ⟨_, _, r1, .inr ⟨rfl, _, hIx _ _ _ _ hi3 r3.tr, r2⟩⟩
      | goto t =>
        obtain ⟨k3, hi3⟩ := hp
        obtain ⟨r1, r2, r3⟩ := fin (some (.goto t)) W3 k3
        exact ⟨_, _, r1, .inr ⟨rfl, _, hIx _ _ _ _ hi3 r3.tr, r2⟩⟩
      | panic ch => exact hp.elim
      | outgrown => exact hp.elim
    · rintro e W2 ⟨⟨v, rfl⟩, (⟨xs, hS, hi, hl⟩ | ⟨pre, c, hi, hl⟩)⟩
      · obtain ⟨p1, p2⟩ := put (.loop (rc .exhausted none)) _ W2 hl
        rw [hL] at hl p1
        have r := run_endLoop (P := P) hl.1 (by rw [hrc]; simp)
        rw [hrc] at r
        rw [hrc] at p1 p2
        exact ⟨none, _, r, hdone _ xs _ (Nat.le_refl _) hS (hI _ _ _ hi p2.tr) p1.2⟩
      · obtain ⟨p1, p2⟩ := put (.loop (rc .exhausted (some c))) _ W2 hl
        rw [hL] at hl p1
        have r := run_endLoop (P := P) hl.1 (by rw [hrc]; simp)
        rw [hrc] at r
        rw [hrc] at p1 p2
        exact ⟨some c, _, r, hstop _ c pre _ (Nat.le_refl _) (hIx _ _ _ _ hi p2.tr) p1.2⟩
end Go.Proofs.YtplnojapnaaakaaGreatDoor

/- Where a piece of a text ends. -/
namespace Go.Proofs.YtplnojapnaaakaaGreatDoor
open Go Go.RowKit Go.Lib
set_option linter.unusedVariables false
theorem heap_below {w w' : World} (h : Below w.heap.size w w') {k : Nat} {o : Obj} (hk : w.heap[k]? = some o) : w'.heap[k]? = some o :=
  (h.block k (Array.getElem?_eq_some_iff.1 hk).1).trans hk
set_option maxHeartbeats 2000000 in
set_option maxRecDepth 100000 in
theorem placeOf_any (s : ByteArray) (rs : List Nat) (n : Nat) (w : World) (hv : s.data.toList = encs rs) (hs : ∀ r ∈ rs, scal r) (hn : n ≤ rs.length) (hb : s.size ≤ 281474976710656) (hl : rs.length ≤ s.size) :
    Calls Tryz.prog 147 #[.string s, .int .i64 n] w fun e w' => e = .returned (.int .i64 (pos rs n)) ∧ Below w.heap.size w w' := by
  go_enter Tryz.func147, Tryz.ntmps147
  go_wp2
  go_loopw [1] (fun m w' => ∃ i : Nat, i ≤ n ∧ m = .int .i64 ((n : Int) - i) ∧ w' = w.iter s (pos rs i)) (fun _ w' => s.size - w'.iterPos w.heap.size)
  case atStart => exact ⟨0, Nat.zero_le _, by simp, rfl⟩
  case round =>
    obtain ⟨i, hi, rfl, rfl⟩ := hrel
    by_cases hlt : i < rs.length
    · obtain ⟨hd, hp⟩ := decode_pos s rs hv hs i hlt
      have hps := pos_succ rs i hlt
      have hpl := enc_pos (hs _ (List.getElem_mem hlt))
      obtain ⟨W, hW⟩ : ∃ W, (enc rs[i]).length = W := ⟨_, rfl⟩
      obtain ⟨R, hR⟩ : ∃ R, rs[i] = R := ⟨_, rfl⟩
      obtain ⟨p, hpp⟩ : ∃ p, pos rs i = p := ⟨_, rfl⟩
      obtain ⟨q, hq⟩ : ∃ q, pos rs (i + 1) = q := ⟨_, rfl⟩
      rw [hW, hR, hpp] at hd
      rw [hW] at hpl
      rw [hpp, hW, hq] at hps
      rw [hpp] at hp ⊢
      have hnx : ∀ ty, (Instr.next (.pointer (some ⟨w.heap.size, 0, none⟩)) true ty).run Tryz.prog (w.iter s p) = .ok (.tuple #[.bool true, .int .i64 p, .int .i32 R]) (w.iter s q) := fun ty => by
        have := run_next_any (P := Tryz.prog) w s p ty hp
        rw [hd] at this
        rw [this, hps]
      have HP : Hid (pos rs i = p) := hpp
      have HQ : Hid (pos rs (i + 1) = q) := hq
      have hpq : p < q := by omega
      clear hd hps hpp hq hR hW hv hs
      by_cases hz : i = n
      · have hz' : ((n : Int) - i) = 0 := by omega
        go_wp2
        go_ret
        rw [← HP.out, hz]
        exact ⟨rfl, (Below.refl _ _).alloc (Nat.le_refl _) _⟩
      · have hz' : ¬ ((n : Int) - i) = 0 := by omega
        go_wp2
        go_roundw
        case rel => exact ⟨i + 1, by omega, by go_num, by rw [HQ.out]⟩
        case measure => simp; omega
    · have he : i = n := by omega
      have hpe : pos rs i = s.size := by
        have h1 : i = rs.length := by omega
        rw [h1, pos_all, ← hv, size_toList]
      have hnx : ∀ ty, (Instr.next (.pointer (some ⟨w.heap.size, 0, none⟩)) true ty).run Tryz.prog (w.iter s (pos rs i)) = _ := fun ty => run_next_end w s _ ty (by omega)
      have hP : Hid (pos rs n = s.size) := by show _ = _; rw [← he]; exact hpe
      clear hpe hv hs he
      go_wp2
      go_ret
      rw [hP.out]
      exact ⟨rfl, (Below.refl _ _).alloc (Nat.le_refl _) _⟩

end Go.Proofs.YtplnojapnaaakaaGreatDoor

/- What the methods Op of api.Insert and api.Embed answer. -/
namespace Go.Proofs.YtplnojapnaaakaaGreatDoor
open Go Go.RowKit Go.Lib
set_option linter.unusedVariables false
set_option maxHeartbeats 1000000 in
set_option maxRecDepth 100000 in
theorem insOp (s : Value) (A : List A2) (t : ByteArray) (n : Int) (w : World) (hR : RN w s A) (hl : A.length ≤ 2097152) :
    Calls Tryz.prog 199 #[.agg #[s, .string t, .int .i64 n]] w fun r w' => ∃ v', r = .returned (opV ⟨1, t, z0, 0, []⟩ v') ∧ OwnA w' w.heap.size v' A ∧ Below w.heap.size w w' := by
  have HC : Hid (∀ W, Below w.heap.size w W → Calls Tryz.prog 124 #[.agg #[s]] W fun r w' => ∃ v', r = .returned v' ∧ OwnA w' W.heap.size v' A ∧ Below W.heap.size W w') := fun W hW => attributes_any s A W (hR.row.below hW) hR.nz hl
  obtain ⟨p, l, cc, rfl⟩ : ∃ p l c, s = .slice p l c := by obtain ⟨p, c, h, _⟩ := hR.row.val; exact ⟨_, _, _, h⟩
  clear hR hl
  obtain ⟨W1, hW1⟩ : ∃ W, W = (w.alloc (.cells #[.slice p l cc, .string t, .int .i64 n] 183)).alloc (.cells #[.int .i64 0, .string ⟨#[]⟩, .int .i64 0, .int .i64 0, .string ⟨#[]⟩, .int .i64 0, .slice none 0 0] 33) := ⟨_, rfl⟩
  have b0 : Below w.heap.size w W1 := by rw [hW1]; exact ((Below.refl _ _).alloc (Nat.le_refl _) _).alloc (by simp) _
  have e0 : W1.cell? ⟨w.heap.size, 0, none⟩ = some (.slice p l cc) := by rw [hW1]; simp
  have e1 : W1.cell? ⟨w.heap.size, 1, none⟩ = some (.string t) := by rw [hW1]; simp
  have hB : BoxO W1 (w.heap.size + 1) opZ nilS ∧ FrO W1 (w.heap.size + 1) := by
    have q1 := BoxO.new (w.alloc (.cells #[.slice p l cc, .string t, .int .i64 n] 183)) opZ nilS
    have q2 := FrO.new (w.alloc (.cells #[.slice p l cc, .string t, .int .i64 n] 183)) opZ nilS
    rw [World.size_alloc] at q1 q2
    rw [hW1]
    exact ⟨q1, q2⟩
  go_enter Tryz.func199, Tryz.ntmps199
  go_upto_region 1 with fail
  rw [← hW1]
  clear hW1
  have HB : Hid (BoxO W1.drew (w.heap.size + 1) opZ nilS ∧ FrO W1.drew (w.heap.size + 1)) := ⟨hB.1.drew, hB.2.drew⟩
  have b1 : Below w.heap.size w W1.drew := b0.drew
  have hz1 : w.heap.size ≤ W1.drew.heap.size := b1.size
  have hz2 : w.heap.size + 1 < W1.drew.heap.size := lt_of_cell hB.1.d0
  have cA := HC.out W1.drew b1
  have n1 : w.heap.size ≠ w.heap.size + 1 := by omega
  have hs1 : w.heap.size ≤ w.heap.size + 1 := by omega
  have HU : Hid (∀ W : World, (∀ i, W.cell? ⟨w.heap.size, i, none⟩ = W1.drew.cell? ⟨w.heap.size, i, none⟩) → W.cell? ⟨w.heap.size, 0, none⟩ = some (.slice p l cc) ∧ W.cell? ⟨w.heap.size, 1, none⟩ = some (.string t)) := fun W h => ⟨(h 0).trans e0, (h 1).trans e1⟩
  have M0 := HU.out W1.drew (fun _ => rfl)
  have HW : Hid (∀ W, Below W1.drew.heap.size W1.drew W → ∀ i, W.cell? ⟨w.heap.size, i, none⟩ = W1.drew.cell? ⟨w.heap.size, i, none⟩) := fun W h i => World.cell?_of_block (a := ⟨w.heap.size, i, none⟩) (h.block w.heap.size (by omega))
  have HS : Hid (∀ W, Below W1.drew.heap.size W1.drew W → (∀ u0 u1 u2 u3 u4 u5 u6 : Value, ((((((((W.setCell ⟨w.heap.size + 1, 0, none⟩ u0).setCell ⟨w.heap.size + 1, 1, none⟩ u1).setCell ⟨w.heap.size + 1, 2, none⟩ u2).setCell ⟨w.heap.size + 1, 3, none⟩ u3).setCell ⟨w.heap.size + 1, 4, none⟩ u4).setCell ⟨w.heap.size + 1, 5, none⟩ u5).setCell ⟨w.heap.size + 1, 6, none⟩ u6).cell? ⟨w.heap.size, 0, none⟩ = some (.slice p l cc) ∧ (((((((W.setCell ⟨w.heap.size + 1, 0, none⟩ u0).setCell ⟨w.heap.size + 1, 1, none⟩ u1).setCell ⟨w.heap.size + 1, 2, none⟩ u2).setCell ⟨w.heap.size + 1, 3, none⟩ u3).setCell ⟨w.heap.size + 1, 4, none⟩ u4).setCell ⟨w.heap.size + 1, 5, none⟩ u5).setCell ⟨w.heap.size + 1, 6, none⟩ u6).cell? ⟨w.heap.size, 1, none⟩ = some (.string t)) ∧ Below w.heap.size w (((((((W.setCell ⟨w.heap.size + 1, 0, none⟩ u0).setCell ⟨w.heap.size + 1, 1, none⟩ u1).setCell ⟨w.heap.size + 1, 2, none⟩ u2).setCell ⟨w.heap.size + 1, 3, none⟩ u3).setCell ⟨w.heap.size + 1, 4, none⟩ u4).setCell ⟨w.heap.size + 1, 5, none⟩ u5).setCell ⟨w.heap.size + 1, 6, none⟩ u6))) := fun W h u0 u1 u2 u3 u4 u5 u6 => ⟨HU.out _ (fun i => (cell_set7 (B := w.heap.size + 1) (j := i) W n1 u0 u1 u2 u3 u4 u5 u6).trans (HW.out W h i)), below_set7 (B := w.heap.size + 1) (b1.trans (h.mono hz1)) hs1 u0 u1 u2 u3 u4 u5 u6⟩
  clear hB e0 e1 b0
  go_region_held3 (fun w' => (w'.cell? ⟨w.heap.size, 0, none⟩ = some (.slice p l cc) ∧ w'.cell? ⟨w.heap.size, 1, none⟩ = some (.string t)) ∧ Below w.heap.size w w')
    (first | exact ⟨by with_reducible first | assumption | exact M0 | exact MS _ _ _ _ _ _ _, by with_reducible first | assumption | exact b1 | exact BS _ _ _ _ _ _ _⟩)
    (first
      | (go_at_call 124; refine cA.mono ?_; rintro r wA ⟨vA, rfl, oA, hA⟩; obtain ⟨pA, cA', rfl⟩ := own_slice oA; have HA' := hA; have bA := b1.trans (HA'.mono hz1); have mA := HU.out wA (HW.out wA HA'); have OA : Hid (OwnA wA W1.drew.heap.size (.slice pA A.length cA') A) := oA; clear oA; obtain ⟨q0, q1, q2, q3, q4, q5, q6⟩ := HB.out.1.below HA'; obtain ⟨h0, h1, h2, h3, h4, h5, h6⟩ := HB.out.2.below HB.out.1 HA'; simp only [z0] at q0 q1 q2 q3 q4 q5 q6; have MS := fun u0 u1 u2 u3 u4 u5 u6 => (HS.out wA HA' u0 u1 u2 u3 u4 u5 u6).1; have BS := fun u0 u1 u2 u3 u4 u5 u6 => (HS.out wA HA' u0 u1 u2 u3 u4 u5 u6).2))
  · have same : ∀ (u0 u1 u2 u3 u4 u5 u6 : Value) (v : Value) (hv : OwnA wA W1.drew.heap.size v A), OwnA (((((((wA.setCell ⟨w.heap.size + 1, 0, none⟩ u0).setCell ⟨w.heap.size + 1, 1, none⟩ u1).setCell ⟨w.heap.size + 1, 2, none⟩ u2).setCell ⟨w.heap.size + 1, 3, none⟩ u3).setCell ⟨w.heap.size + 1, 4, none⟩ u4).setCell ⟨w.heap.size + 1, 5, none⟩ u5).setCell ⟨w.heap.size + 1, 6, none⟩ u6) w.heap.size v A := fun u0 u1 u2 u3 u4 u5 u6 v hv =>
      own_weaken (owns_same hv fun k hk => by
        have := (owns_block hv k hk).1
        exact heap_set7 _ (by omega) _ _ _ _ _ _ _) hz1
    go_wp2
    exact bodyPost_ret (v := opV ⟨1, t, z0, 0, []⟩ (.slice pA A.length cA')) (by simp [results, Tryz.results199, go_sem, z0, q0, q1, q2, q3, q4, q5, q6]) rfl ⟨_, rfl, same _ _ _ _ _ _ _ _ OA.out, BS _ _ _ _ _ _ _⟩

set_option maxHeartbeats 1000000 in
set_option maxRecDepth 100000 in
theorem embOp_null (s : Value) (A : List A2) (t : ByteArray) (w : World) (hR : RN w s A) (hl : A.length ≤ 2097152) :
    Calls Tryz.prog 201 #[.agg #[s, .string t, .iface 231 (.agg #[])]] w fun r w' => ∃ v', r = .returned (opV ⟨2, t, z0, 0, []⟩ v') ∧ OwnA w' w.heap.size v' A ∧ Below w.heap.size w w' := by
  have HC : Hid (∀ W, Below w.heap.size w W → Calls Tryz.prog 124 #[.agg #[s]] W fun r w' => ∃ v', r = .returned v' ∧ OwnA w' W.heap.size v' A ∧ Below W.heap.size W w') := fun W hW => attributes_any s A W (hR.row.below hW) hR.nz hl
  obtain ⟨p, l, cc, rfl⟩ : ∃ p l c, s = .slice p l c := by obtain ⟨p, c, h, _⟩ := hR.row.val; exact ⟨_, _, _, h⟩
  clear hR hl
  obtain ⟨W1, hW1⟩ : ∃ W, W = (w.alloc (.cells #[.slice p l cc, .string t, .iface 231 (.agg #[])] 187)).alloc (.cells #[.int .i64 0, .string ⟨#[]⟩, .int .i64 0, .int .i64 0, .string ⟨#[]⟩, .int .i64 0, .slice none 0 0] 33) := ⟨_, rfl⟩
  have b0 : Below w.heap.size w W1 := by rw [hW1]; exact ((Below.refl _ _).alloc (Nat.le_refl _) _).alloc (by simp) _
  have e0 : W1.cell? ⟨w.heap.size, 0, none⟩ = some (.slice p l cc) := by rw [hW1]; simp
  have e1 : W1.cell? ⟨w.heap.size, 1, none⟩ = some (.string t) := by rw [hW1]; simp
  have e2 : W1.cell? ⟨w.heap.size, 2, none⟩ = some (.iface 231 (.agg #[])) := by rw [hW1]; simp
  have hB : BoxO W1 (w.heap.size + 1) opZ nilS ∧ FrO W1 (w.heap.size + 1) := by
    have q1 := BoxO.new (w.alloc (.cells #[.slice p l cc, .string t, .iface 231 (.agg #[])] 187)) opZ nilS
    have q2 := FrO.new (w.alloc (.cells #[.slice p l cc, .string t, .iface 231 (.agg #[])] 187)) opZ nilS
    rw [World.size_alloc] at q1 q2
    rw [hW1]
    exact ⟨q1, q2⟩
  go_enter Tryz.func201, Tryz.ntmps201
  go_upto_region 1 with fail
  rw [← hW1]
  clear hW1
  have HB : Hid (BoxO W1.drew (w.heap.size + 1) opZ nilS ∧ FrO W1.drew (w.heap.size + 1)) := ⟨hB.1.drew, hB.2.drew⟩
  have b1 : Below w.heap.size w W1.drew := b0.drew
  have hz1 : w.heap.size ≤ W1.drew.heap.size := b1.size
  have hz2 : w.heap.size + 1 < W1.drew.heap.size := lt_of_cell hB.1.d0
  have cA := HC.out W1.drew b1
  have n1 : w.heap.size ≠ w.heap.size + 1 := by omega
  have hs1 : w.heap.size ≤ w.heap.size + 1 := by omega
  have HU : Hid (∀ W : World, (∀ i, W.cell? ⟨w.heap.size, i, none⟩ = W1.drew.cell? ⟨w.heap.size, i, none⟩) → W.cell? ⟨w.heap.size, 0, none⟩ = some (.slice p l cc) ∧ W.cell? ⟨w.heap.size, 1, none⟩ = some (.string t) ∧ W.cell? ⟨w.heap.size, 2, none⟩ = some (.iface 231 (.agg #[]))) := fun W h => ⟨(h 0).trans e0, (h 1).trans e1, (h 2).trans e2⟩
  have M0 := HU.out W1.drew (fun _ => rfl)
  have HW : Hid (∀ W, Below W1.drew.heap.size W1.drew W → ∀ i, W.cell? ⟨w.heap.size, i, none⟩ = W1.drew.cell? ⟨w.heap.size, i, none⟩) := fun W h i => World.cell?_of_block (a := ⟨w.heap.size, i, none⟩) (h.block w.heap.size (by omega))
  have HS : Hid (∀ W, Below W1.drew.heap.size W1.drew W → (∀ u0 u1 u2 u3 u4 u5 u6 : Value, ((((((((W.setCell ⟨w.heap.size + 1, 0, none⟩ u0).setCell ⟨w.heap.size + 1, 1, none⟩ u1).setCell ⟨w.heap.size + 1, 2, none⟩ u2).setCell ⟨w.heap.size + 1, 3, none⟩ u3).setCell ⟨w.heap.size + 1, 4, none⟩ u4).setCell ⟨w.heap.size + 1, 5, none⟩ u5).setCell ⟨w.heap.size + 1, 6, none⟩ u6).cell? ⟨w.heap.size, 0, none⟩ = some (.slice p l cc) ∧ (((((((W.setCell ⟨w.heap.size + 1, 0, none⟩ u0).setCell ⟨w.heap.size + 1, 1, none⟩ u1).setCell ⟨w.heap.size + 1, 2, none⟩ u2).setCell ⟨w.heap.size + 1, 3, none⟩ u3).setCell ⟨w.heap.size + 1, 4, none⟩ u4).setCell ⟨w.heap.size + 1, 5, none⟩ u5).setCell ⟨w.heap.size + 1, 6, none⟩ u6).cell? ⟨w.heap.size, 1, none⟩ = some (.string t) ∧ (((((((W.setCell ⟨w.heap.size + 1, 0, none⟩ u0).setCell ⟨w.heap.size + 1, 1, none⟩ u1).setCell ⟨w.heap.size + 1, 2, none⟩ u2).setCell ⟨w.heap.size + 1, 3, none⟩ u3).setCell ⟨w.heap.size + 1, 4, none⟩ u4).setCell ⟨w.heap.size + 1, 5, none⟩ u5).setCell ⟨w.heap.size + 1, 6, none⟩ u6).cell? ⟨w.heap.size, 2, none⟩ = some (.iface 231 (.agg #[]))) ∧ Below w.heap.size w (((((((W.setCell ⟨w.heap.size + 1, 0, none⟩ u0).setCell ⟨w.heap.size + 1, 1, none⟩ u1).setCell ⟨w.heap.size + 1, 2, none⟩ u2).setCell ⟨w.heap.size + 1, 3, none⟩ u3).setCell ⟨w.heap.size + 1, 4, none⟩ u4).setCell ⟨w.heap.size + 1, 5, none⟩ u5).setCell ⟨w.heap.size + 1, 6, none⟩ u6))) := fun W h u0 u1 u2 u3 u4 u5 u6 => ⟨HU.out _ (fun i => (cell_set7 (B := w.heap.size + 1) (j := i) W n1 u0 u1 u2 u3 u4 u5 u6).trans (HW.out W h i)), below_set7 (B := w.heap.size + 1) (b1.trans (h.mono hz1)) hs1 u0 u1 u2 u3 u4 u5 u6⟩
  clear hB e0 e1 e2 b0
  go_region_held3 (fun w' => (w'.cell? ⟨w.heap.size, 0, none⟩ = some (.slice p l cc) ∧ w'.cell? ⟨w.heap.size, 1, none⟩ = some (.string t) ∧ w'.cell? ⟨w.heap.size, 2, none⟩ = some (.iface 231 (.agg #[]))) ∧ Below w.heap.size w w')
    (first | exact ⟨by with_reducible first | assumption | exact M0 | exact MS _ _ _ _ _ _ _, by with_reducible first | assumption | exact b1 | exact BS _ _ _ _ _ _ _⟩)
    (first
      | (go_at_call 209; have hx := OA; clear hx; refine (plain_n wA).mono ?_; rintro r wP ⟨rfl, hP⟩; have HP' := HA'.trans (hP.mono HA'.size); have bP := b1.trans (HP'.mono hz1); have mP := HU.out wP (HW.out wP HP'); have OF : Hid (OwnA wP W1.drew.heap.size (.slice pA A.length cA') A) := owns_below OA.out hP; obtain ⟨q0, q1, q2, q3, q4, q5, q6⟩ := HB.out.1.below HP'; obtain ⟨h0, h1, h2, h3, h4, h5, h6⟩ := HB.out.2.below HB.out.1 HP'; simp only [z0] at q0 q1 q2 q3 q4 q5 q6; have MS := fun u0 u1 u2 u3 u4 u5 u6 => (HS.out wP HP' u0 u1 u2 u3 u4 u5 u6).1; have BS := fun u0 u1 u2 u3 u4 u5 u6 => (HS.out wP HP' u0 u1 u2 u3 u4 u5 u6).2)
      | (go_at_call 124; refine cA2.mono ?_; rintro r wA ⟨vA, rfl, oA, hA⟩; obtain ⟨pA, cA', rfl⟩ := own_slice oA; have HA' := HP'.trans (hA.mono HP'.size); have bA := b1.trans (HA'.mono hz1); have mA := HU.out wA (HW.out wA HA'); have OA : Hid (OwnA wA W1.drew.heap.size (.slice pA A.length cA') A) := own_weaken oA HP'.size; clear oA; have OF := OA; obtain ⟨q0, q1, q2, q3, q4, q5, q6⟩ := HB.out.1.below HA'; obtain ⟨h0, h1, h2, h3, h4, h5, h6⟩ := HB.out.2.below HB.out.1 HA'; simp only [z0] at q0 q1 q2 q3 q4 q5 q6; have MS := fun u0 u1 u2 u3 u4 u5 u6 => (HS.out wA HA' u0 u1 u2 u3 u4 u5 u6).1; have BS := fun u0 u1 u2 u3 u4 u5 u6 => (HS.out wA HA' u0 u1 u2 u3 u4 u5 u6).2)
      | (go_at_call 124; refine cA.mono ?_; rintro r wA ⟨vA, rfl, oA, hA⟩; obtain ⟨pA, cA', rfl⟩ := own_slice oA; have HA' := hA; have bA := b1.trans (HA'.mono hz1); have mA := HU.out wA (HW.out wA HA'); have OA : Hid (OwnA wA W1.drew.heap.size (.slice pA A.length cA') A) := oA; clear oA)
      | (go_at_call 209; refine (plain_n W1.drew).mono ?_; rintro r wP ⟨rfl, hP⟩; have HP' := hP; have bP := b1.trans (HP'.mono hz1); have mP := HU.out wP (HW.out wP HP'); have cA2 := HC.out wP bP))
  · have same : ∀ (u0 u1 u2 u3 u4 u5 u6 : Value) (v : Value) (hv : OwnA wA W1.drew.heap.size v A), OwnA (((((((wA.setCell ⟨w.heap.size + 1, 0, none⟩ u0).setCell ⟨w.heap.size + 1, 1, none⟩ u1).setCell ⟨w.heap.size + 1, 2, none⟩ u2).setCell ⟨w.heap.size + 1, 3, none⟩ u3).setCell ⟨w.heap.size + 1, 4, none⟩ u4).setCell ⟨w.heap.size + 1, 5, none⟩ u5).setCell ⟨w.heap.size + 1, 6, none⟩ u6) w.heap.size v A := fun u0 u1 u2 u3 u4 u5 u6 v hv =>
      own_weaken (owns_same hv fun k hk => by
        have := (owns_block hv k hk).1
        exact heap_set7 _ (by omega) _ _ _ _ _ _ _) hz1
    go_wp2
    exact bodyPost_ret (v := opV ⟨2, t, z0, 0, []⟩ (.slice pA A.length cA')) (by simp [results, Tryz.results201, go_sem, z0, q0, q1, q2, q3, q4, q5, q6]) rfl ⟨_, rfl, same _ _ _ _ _ _ _ _ OF.out, BS _ _ _ _ _ _ _⟩

set_option maxHeartbeats 1000000 in
set_option maxRecDepth 100000 in
theorem embOp_flag0 (s : Value) (A : List A2) (t : ByteArray) (w : World) (hR : RN w s A) (hl : A.length ≤ 2097152) :
    Calls Tryz.prog 201 #[.agg #[s, .string t, .iface 227 (.bool false)]] w fun r w' => ∃ v', r = .returned (opV ⟨2, t, (1, 0, ⟨#[]⟩), 0, []⟩ v') ∧ OwnA w' w.heap.size v' A ∧ Below w.heap.size w w' := by
  have HC : Hid (∀ W, Below w.heap.size w W → Calls Tryz.prog 124 #[.agg #[s]] W fun r w' => ∃ v', r = .returned v' ∧ OwnA w' W.heap.size v' A ∧ Below W.heap.size W w') := fun W hW => attributes_any s A W (hR.row.below hW) hR.nz hl
  obtain ⟨p, l, cc, rfl⟩ : ∃ p l c, s = .slice p l c := by obtain ⟨p, c, h, _⟩ := hR.row.val; exact ⟨_, _, _, h⟩
  clear hR hl
  obtain ⟨W1, hW1⟩ : ∃ W, W = (w.alloc (.cells #[.slice p l cc, .string t, .iface 227 (.bool false)] 187)).alloc (.cells #[.int .i64 0, .string ⟨#[]⟩, .int .i64 0, .int .i64 0, .string ⟨#[]⟩, .int .i64 0, .slice none 0 0] 33) := ⟨_, rfl⟩
  have b0 : Below w.heap.size w W1 := by rw [hW1]; exact ((Below.refl _ _).alloc (Nat.le_refl _) _).alloc (by simp) _
  have e0 : W1.cell? ⟨w.heap.size, 0, none⟩ = some (.slice p l cc) := by rw [hW1]; simp
  have e1 : W1.cell? ⟨w.heap.size, 1, none⟩ = some (.string t) := by rw [hW1]; simp
  have e2 : W1.cell? ⟨w.heap.size, 2, none⟩ = some (.iface 227 (.bool false)) := by rw [hW1]; simp
  have hB : BoxO W1 (w.heap.size + 1) opZ nilS ∧ FrO W1 (w.heap.size + 1) := by
    have q1 := BoxO.new (w.alloc (.cells #[.slice p l cc, .string t, .iface 227 (.bool false)] 187)) opZ nilS
    have q2 := FrO.new (w.alloc (.cells #[.slice p l cc, .string t, .iface 227 (.bool false)] 187)) opZ nilS
    rw [World.size_alloc] at q1 q2
    rw [hW1]
    exact ⟨q1, q2⟩
  go_enter Tryz.func201, Tryz.ntmps201
  go_upto_region 1 with fail
  rw [← hW1]
  clear hW1
  have HB : Hid (BoxO W1.drew (w.heap.size + 1) opZ nilS ∧ FrO W1.drew (w.heap.size + 1)) := ⟨hB.1.drew, hB.2.drew⟩
  have b1 : Below w.heap.size w W1.drew := b0.drew
  have hz1 : w.heap.size ≤ W1.drew.heap.size := b1.size
  have hz2 : w.heap.size + 1 < W1.drew.heap.size := lt_of_cell hB.1.d0
  have cA := HC.out W1.drew b1
  have n1 : w.heap.size ≠ w.heap.size + 1 := by omega
  have hs1 : w.heap.size ≤ w.heap.size + 1 := by omega
  have HU : Hid (∀ W : World, (∀ i, W.cell? ⟨w.heap.size, i, none⟩ = W1.drew.cell? ⟨w.heap.size, i, none⟩) → W.cell? ⟨w.heap.size, 0, none⟩ = some (.slice p l cc) ∧ W.cell? ⟨w.heap.size, 1, none⟩ = some (.string t) ∧ W.cell? ⟨w.heap.size, 2, none⟩ = some (.iface 227 (.bool false))) := fun W h => ⟨(h 0).trans e0, (h 1).trans e1, (h 2).trans e2⟩
  have M0 := HU.out W1.drew (fun _ => rfl)
  have HW : Hid (∀ W, Below W1.drew.heap.size W1.drew W → ∀ i, W.cell? ⟨w.heap.size, i, none⟩ = W1.drew.cell? ⟨w.heap.size, i, none⟩) := fun W h i => World.cell?_of_block (a := ⟨w.heap.size, i, none⟩) (h.block w.heap.size (by omega))
  have HS : Hid (∀ W, Below W1.drew.heap.size W1.drew W → (∀ u0 u1 u2 u3 u4 u5 u6 : Value, ((((((((W.setCell ⟨w.heap.size + 1, 0, none⟩ u0).setCell ⟨w.heap.size + 1, 1, none⟩ u1).setCell ⟨w.heap.size + 1, 2, none⟩ u2).setCell ⟨w.heap.size + 1, 3, none⟩ u3).setCell ⟨w.heap.size + 1, 4, none⟩ u4).setCell ⟨w.heap.size + 1, 5, none⟩ u5).setCell ⟨w.heap.size + 1, 6, none⟩ u6).cell? ⟨w.heap.size, 0, none⟩ = some (.slice p l cc) ∧ (((((((W.setCell ⟨w.heap.size + 1, 0, none⟩ u0).setCell ⟨w.heap.size + 1, 1, none⟩ u1).setCell ⟨w.heap.size + 1, 2, none⟩ u2).setCell ⟨w.heap.size + 1, 3, none⟩ u3).setCell ⟨w.heap.size + 1, 4, none⟩ u4).setCell ⟨w.heap.size + 1, 5, none⟩ u5).setCell ⟨w.heap.size + 1, 6, none⟩ u6).cell? ⟨w.heap.size, 1, none⟩ = some (.string t) ∧ (((((((W.setCell ⟨w.heap.size + 1, 0, none⟩ u0).setCell ⟨w.heap.size + 1, 1, none⟩ u1).setCell ⟨w.heap.size + 1, 2, none⟩ u2).setCell ⟨w.heap.size + 1, 3, none⟩ u3).setCell ⟨w.heap.size + 1, 4, none⟩ u4).setCell ⟨w.heap.size + 1, 5, none⟩ u5).setCell ⟨w.heap.size + 1, 6, none⟩ u6).cell? ⟨w.heap.size, 2, none⟩ = some (.iface 227 (.bool false))) ∧ Below w.heap.size w (((((((W.setCell ⟨w.heap.size + 1, 0, none⟩ u0).setCell ⟨w.heap.size + 1, 1, none⟩ u1).setCell ⟨w.heap.size + 1, 2, none⟩ u2).setCell ⟨w.heap.size + 1, 3, none⟩ u3).setCell ⟨w.heap.size + 1, 4, none⟩ u4).setCell ⟨w.heap.size + 1, 5, none⟩ u5).setCell ⟨w.heap.size + 1, 6, none⟩ u6))) := fun W h u0 u1 u2 u3 u4 u5 u6 => ⟨HU.out _ (fun i => (cell_set7 (B := w.heap.size + 1) (j := i) W n1 u0 u1 u2 u3 u4 u5 u6).trans (HW.out W h i)), below_set7 (B := w.heap.size + 1) (b1.trans (h.mono hz1)) hs1 u0 u1 u2 u3 u4 u5 u6⟩
  clear hB e0 e1 e2 b0
  go_region_held3 (fun w' => (w'.cell? ⟨w.heap.size, 0, none⟩ = some (.slice p l cc) ∧ w'.cell? ⟨w.heap.size, 1, none⟩ = some (.string t) ∧ w'.cell? ⟨w.heap.size, 2, none⟩ = some (.iface 227 (.bool false))) ∧ Below w.heap.size w w')
    (first | exact ⟨by with_reducible first | assumption | exact M0 | exact MS _ _ _ _ _ _ _, by with_reducible first | assumption | exact b1 | exact BS _ _ _ _ _ _ _⟩)
    (first
      | (go_at_call 203; have hx := OA; clear hx; refine (plain_f0 wA).mono ?_; rintro r wP ⟨rfl, hP⟩; have HP' := HA'.trans (hP.mono HA'.size); have bP := b1.trans (HP'.mono hz1); have mP := HU.out wP (HW.out wP HP'); have OF : Hid (OwnA wP W1.drew.heap.size (.slice pA A.length cA') A) := owns_below OA.out hP; obtain ⟨q0, q1, q2, q3, q4, q5, q6⟩ := HB.out.1.below HP'; obtain ⟨h0, h1, h2, h3, h4, h5, h6⟩ := HB.out.2.below HB.out.1 HP'; simp only [z0] at q0 q1 q2 q3 q4 q5 q6; have MS := fun u0 u1 u2 u3 u4 u5 u6 => (HS.out wP HP' u0 u1 u2 u3 u4 u5 u6).1; have BS := fun u0 u1 u2 u3 u4 u5 u6 => (HS.out wP HP' u0 u1 u2 u3 u4 u5 u6).2)
      | (go_at_call 124; refine cA2.mono ?_; rintro r wA ⟨vA, rfl, oA, hA⟩; obtain ⟨pA, cA', rfl⟩ := own_slice oA; have HA' := HP'.trans (hA.mono HP'.size); have bA := b1.trans (HA'.mono hz1); have mA := HU.out wA (HW.out wA HA'); have OA : Hid (OwnA wA W1.drew.heap.size (.slice pA A.length cA') A) := own_weaken oA HP'.size; clear oA; have OF := OA; obtain ⟨q0, q1, q2, q3, q4, q5, q6⟩ := HB.out.1.below HA'; obtain ⟨h0, h1, h2, h3, h4, h5, h6⟩ := HB.out.2.below HB.out.1 HA'; simp only [z0] at q0 q1 q2 q3 q4 q5 q6; have MS := fun u0 u1 u2 u3 u4 u5 u6 => (HS.out wA HA' u0 u1 u2 u3 u4 u5 u6).1; have BS := fun u0 u1 u2 u3 u4 u5 u6 => (HS.out wA HA' u0 u1 u2 u3 u4 u5 u6).2)
      | (go_at_call 124; refine cA.mono ?_; rintro r wA ⟨vA, rfl, oA, hA⟩; obtain ⟨pA, cA', rfl⟩ := own_slice oA; have HA' := hA; have bA := b1.trans (HA'.mono hz1); have mA := HU.out wA (HW.out wA HA'); have OA : Hid (OwnA wA W1.drew.heap.size (.slice pA A.length cA') A) := oA; clear oA)
      | (go_at_call 203; refine (plain_f0 W1.drew).mono ?_; rintro r wP ⟨rfl, hP⟩; have HP' := hP; have bP := b1.trans (HP'.mono hz1); have mP := HU.out wP (HW.out wP HP'); have cA2 := HC.out wP bP))
  · have same : ∀ (u0 u1 u2 u3 u4 u5 u6 : Value) (v : Value) (hv : OwnA wA W1.drew.heap.size v A), OwnA (((((((wA.setCell ⟨w.heap.size + 1, 0, none⟩ u0).setCell ⟨w.heap.size + 1, 1, none⟩ u1).setCell ⟨w.heap.size + 1, 2, none⟩ u2).setCell ⟨w.heap.size + 1, 3, none⟩ u3).setCell ⟨w.heap.size + 1, 4, none⟩ u4).setCell ⟨w.heap.size + 1, 5, none⟩ u5).setCell ⟨w.heap.size + 1, 6, none⟩ u6) w.heap.size v A := fun u0 u1 u2 u3 u4 u5 u6 v hv =>
      own_weaken (owns_same hv fun k hk => by
        have := (owns_block hv k hk).1
        exact heap_set7 _ (by omega) _ _ _ _ _ _ _) hz1
    go_wp2
    exact bodyPost_ret (v := opV ⟨2, t, (1, 0, ⟨#[]⟩), 0, []⟩ (.slice pA A.length cA')) (by simp [results, Tryz.results201, go_sem, q0, q1, q2, q3, q4, q5, q6]) rfl ⟨_, rfl, same _ _ _ _ _ _ _ _ OF.out, BS _ _ _ _ _ _ _⟩

set_option maxHeartbeats 1000000 in
set_option maxRecDepth 100000 in
theorem embOp_flag1 (s : Value) (A : List A2) (t : ByteArray) (w : World) (hR : RN w s A) (hl : A.length ≤ 2097152) :
    Calls Tryz.prog 201 #[.agg #[s, .string t, .iface 227 (.bool true)]] w fun r w' => ∃ v', r = .returned (opV ⟨2, t, (1, 1, ⟨#[]⟩), 0, []⟩ v') ∧ OwnA w' w.heap.size v' A ∧ Below w.heap.size w w' := by
  have HC : Hid (∀ W, Below w.heap.size w W → Calls Tryz.prog 124 #[.agg #[s]] W fun r w' => ∃ v', r = .returned v' ∧ OwnA w' W.heap.size v' A ∧ Below W.heap.size W w') := fun W hW => attributes_any s A W (hR.row.below hW) hR.nz hl
  obtain ⟨p, l, cc, rfl⟩ : ∃ p l c, s = .slice p l c := by obtain ⟨p, c, h, _⟩ := hR.row.val; exact ⟨_, _, _, h⟩
  clear hR hl
  obtain ⟨W1, hW1⟩ : ∃ W, W = (w.alloc (.cells #[.slice p l cc, .string t, .iface 227 (.bool true)] 187)).alloc (.cells #[.int .i64 0, .string ⟨#[]⟩, .int .i64 0, .int .i64 0, .string ⟨#[]⟩, .int .i64 0, .slice none 0 0] 33) := ⟨_, rfl⟩
  have b0 : Below w.heap.size w W1 := by rw [hW1]; exact ((Below.refl _ _).alloc (Nat.le_refl _) _).alloc (by simp) _
  have e0 : W1.cell? ⟨w.heap.size, 0, none⟩ = some (.slice p l cc) := by rw [hW1]; simp
  have e1 : W1.cell? ⟨w.heap.size, 1, none⟩ = some (.string t) := by rw [hW1]; simp
  have e2 : W1.cell? ⟨w.heap.size, 2, none⟩ = some (.iface 227 (.bool true)) := by rw [hW1]; simp
  have hB : BoxO W1 (w.heap.size + 1) opZ nilS ∧ FrO W1 (w.heap.size + 1) := by
    have q1 := BoxO.new (w.alloc (.cells #[.slice p l cc, .string t, .iface 227 (.bool true)] 187)) opZ nilS
    have q2 := FrO.new (w.alloc (.cells #[.slice p l cc, .string t, .iface 227 (.bool true)] 187)) opZ nilS
    rw [World.size_alloc] at q1 q2
    rw [hW1]
    exact ⟨q1, q2⟩
  go_enter Tryz.func201, Tryz.ntmps201
  go_upto_region 1 with fail
  rw [← hW1]
  clear hW1
  have HB : Hid (BoxO W1.drew (w.heap.size + 1) opZ nilS ∧ FrO W1.drew (w.heap.size + 1)) := ⟨hB.1.drew, hB.2.drew⟩
  have b1 : Below w.heap.size w W1.drew := b0.drew
  have hz1 : w.heap.size ≤ W1.drew.heap.size := b1.size
  have hz2 : w.heap.size + 1 < W1.drew.heap.size := lt_of_cell hB.1.d0
  have cA := HC.out W1.drew b1
  have n1 : w.heap.size ≠ w.heap.size + 1 := by omega
  have hs1 : w.heap.size ≤ w.heap.size + 1 := by omega
  have HU : Hid (∀ W : World, (∀ i, W.cell? ⟨w.heap.size, i, none⟩ = W1.drew.cell? ⟨w.heap.size, i, none⟩) → W.cell? ⟨w.heap.size, 0, none⟩ = some (.slice p l cc) ∧ W.cell? ⟨w.heap.size, 1, none⟩ = some (.string t) ∧ W.cell? ⟨w.heap.size, 2, none⟩ = some (.iface 227 (.bool true))) := fun W h => ⟨(h 0).trans e0, (h 1).trans e1, (h 2).trans e2⟩
  have M0 := HU.out W1.drew (fun _ => rfl)
  have HW : Hid (∀ W, Below W1.drew.heap.size W1.drew W → ∀ i, W.cell? ⟨w.heap.size, i, none⟩ = W1.drew.cell? ⟨w.heap.size, i, none⟩) := fun W h i => World.cell?_of_block (a := ⟨w.heap.size, i, none⟩) (h.block w.heap.size (by omega))
  have HS : Hid (∀ W, Below W1.drew.heap.size W1.drew W → (∀ u0 u1 u2 u3 u4 u5 u6 : Value, ((((((((W.setCell ⟨w.heap.size + 1, 0, none⟩ u0).setCell ⟨w.heap.size + 1, 1, none⟩ u1).setCell ⟨w.heap.size + 1, 2, none⟩ u2).setCell ⟨w.heap.size + 1, 3, none⟩ u3).setCell ⟨w.heap.size + 1, 4, none⟩ u4).setCell ⟨w.heap.size + 1, 5, none⟩ u5).setCell ⟨w.heap.size + 1, 6, none⟩ u6).cell? ⟨w.heap.size, 0, none⟩ = some (.slice p l cc) ∧ (((((((W.setCell ⟨w.heap.size + 1, 0, none⟩ u0).setCell ⟨w.heap.size + 1, 1, none⟩ u1).setCell ⟨w.heap.size + 1, 2, none⟩ u2).setCell ⟨w.heap.size + 1, 3, none⟩ u3).setCell ⟨w.heap.size + 1, 4, none⟩ u4).setCell ⟨w.heap.size + 1, 5, none⟩ u5).setCell ⟨w.heap.size + 1, 6, none⟩ u6).cell? ⟨w.heap.size, 1, none⟩ = some (.string t) ∧ (((((((W.setCell ⟨w.heap.size + 1, 0, none⟩ u0).setCell ⟨w.heap.size + 1, 1, none⟩ u1).setCell ⟨w.heap.size + 1, 2, none⟩ u2).setCell ⟨w.heap.size + 1, 3, none⟩ u3).setCell ⟨w.heap.size + 1, 4, none⟩ u4).setCell ⟨w.heap.size + 1, 5, none⟩ u5).setCell ⟨w.heap.size + 1, 6, none⟩ u6).cell? ⟨w.heap.size, 2, none⟩ = some (.iface 227 (.bool true))) ∧ Below w.heap.size w (((((((W.setCell ⟨w.heap.size + 1, 0, none⟩ u0).setCell ⟨w.heap.size + 1, 1, none⟩ u1).setCell ⟨w.heap.size + 1, 2, none⟩ u2).setCell ⟨w.heap.size + 1, 3, none⟩ u3).setCell ⟨w.heap.size + 1, 4, none⟩ u4).setCell ⟨w.heap.size + 1, 5, none⟩ u5).setCell ⟨w.heap.size + 1, 6, none⟩ u6))) := fun W h u0 u1 u2 u3 u4 u5 u6 => ⟨HU.out _ (fun i => (cell_set7 (B := w.heap.size + 1) (j := i) W n1 u0 u1 u2 u3 u4 u5 u6).trans (HW.out W h i)), below_set7 (B := w.heap.size + 1) (b1.trans (h.mono hz1)) hs1 u0 u1 u2 u3 u4 u5 u6⟩
  clear hB e0 e1 e2 b0
  go_region_held3 (fun w' => (w'.cell? ⟨w.heap.size, 0, none⟩ = some (.slice p l cc) ∧ w'.cell? ⟨w.heap.size, 1, none⟩ = some (.string t) ∧ w'.cell? ⟨w.heap.size, 2, none⟩ = some (.iface 227 (.bool true))) ∧ Below w.heap.size w w')
    (first | exact ⟨by with_reducible first | assumption | exact M0 | exact MS _ _ _ _ _ _ _, by with_reducible first | assumption | exact b1 | exact BS _ _ _ _ _ _ _⟩)
    (first
      | (go_at_call 203; have hx := OA; clear hx; refine (plain_f1 wA).mono ?_; rintro r wP ⟨rfl, hP⟩; have HP' := HA'.trans (hP.mono HA'.size); have bP := b1.trans (HP'.mono hz1); have mP := HU.out wP (HW.out wP HP'); have OF : Hid (OwnA wP W1.drew.heap.size (.slice pA A.length cA') A) := owns_below OA.out hP; obtain ⟨q0, q1, q2, q3, q4, q5, q6⟩ := HB.out.1.below HP'; obtain ⟨h0, h1, h2, h3, h4, h5, h6⟩ := HB.out.2.below HB.out.1 HP'; simp only [z0] at q0 q1 q2 q3 q4 q5 q6; have MS := fun u0 u1 u2 u3 u4 u5 u6 => (HS.out wP HP' u0 u1 u2 u3 u4 u5 u6).1; have BS := fun u0 u1 u2 u3 u4 u5 u6 => (HS.out wP HP' u0 u1 u2 u3 u4 u5 u6).2)
      | (go_at_call 124; refine cA2.mono ?_; rintro r wA ⟨vA, rfl, oA, hA⟩; obtain ⟨pA, cA', rfl⟩ := own_slice oA; have HA' := HP'.trans (hA.mono HP'.size); have bA := b1.trans (HA'.mono hz1); have mA := HU.out wA (HW.out wA HA'); have OA : Hid (OwnA wA W1.drew.heap.size (.slice pA A.length cA') A) := own_weaken oA HP'.size; clear oA; have OF := OA; obtain ⟨q0, q1, q2, q3, q4, q5, q6⟩ := HB.out.1.below HA'; obtain ⟨h0, h1, h2, h3, h4, h5, h6⟩ := HB.out.2.below HB.out.1 HA'; simp only [z0] at q0 q1 q2 q3 q4 q5 q6; have MS := fun u0 u1 u2 u3 u4 u5 u6 => (HS.out wA HA' u0 u1 u2 u3 u4 u5 u6).1; have BS := fun u0 u1 u2 u3 u4 u5 u6 => (HS.out wA HA' u0 u1 u2 u3 u4 u5 u6).2)
      | (go_at_call 124; refine cA.mono ?_; rintro r wA ⟨vA, rfl, oA, hA⟩; obtain ⟨pA, cA', rfl⟩ := own_slice oA; have HA' := hA; have bA := b1.trans (HA'.mono hz1); have mA := HU.out wA (HW.out wA HA'); have OA : Hid (OwnA wA W1.drew.heap.size (.slice pA A.length cA') A) := oA; clear oA)
      | (go_at_call 203; refine (plain_f1 W1.drew).mono ?_; rintro r wP ⟨rfl, hP⟩; have HP' := hP; have bP := b1.trans (HP'.mono hz1); have mP := HU.out wP (HW.out wP HP'); have cA2 := HC.out wP bP))
  · have same : ∀ (u0 u1 u2 u3 u4 u5 u6 : Value) (v : Value) (hv : OwnA wA W1.drew.heap.size v A), OwnA (((((((wA.setCell ⟨w.heap.size + 1, 0, none⟩ u0).setCell ⟨w.heap.size + 1, 1, none⟩ u1).setCell ⟨w.heap.size + 1, 2, none⟩ u2).setCell ⟨w.heap.size + 1, 3, none⟩ u3).setCell ⟨w.heap.size + 1, 4, none⟩ u4).setCell ⟨w.heap.size + 1, 5, none⟩ u5).setCell ⟨w.heap.size + 1, 6, none⟩ u6) w.heap.size v A := fun u0 u1 u2 u3 u4 u5 u6 v hv =>
      own_weaken (owns_same hv fun k hk => by
        have := (owns_block hv k hk).1
        exact heap_set7 _ (by omega) _ _ _ _ _ _ _) hz1
    go_wp2
    exact bodyPost_ret (v := opV ⟨2, t, (1, 1, ⟨#[]⟩), 0, []⟩ (.slice pA A.length cA')) (by simp [results, Tryz.results201, go_sem, q0, q1, q2, q3, q4, q5, q6]) rfl ⟨_, rfl, same _ _ _ _ _ _ _ _ OF.out, BS _ _ _ _ _ _ _⟩

set_option maxHeartbeats 1000000 in
set_option maxRecDepth 100000 in
theorem embOp_num (z : Int) (s : Value) (A : List A2) (t : ByteArray) (w : World) (hR : RN w s A) (hl : A.length ≤ 2097152) :
    Calls Tryz.prog 201 #[.agg #[s, .string t, .iface 228 (.int .i64 z)]] w fun r w' => ∃ v', r = .returned (opV ⟨2, t, (2, z, ⟨#[]⟩), 0, []⟩ v') ∧ OwnA w' w.heap.size v' A ∧ Below w.heap.size w w' := by
  have HC : Hid (∀ W, Below w.heap.size w W → Calls Tryz.prog 124 #[.agg #[s]] W fun r w' => ∃ v', r = .returned v' ∧ OwnA w' W.heap.size v' A ∧ Below W.heap.size W w') := fun W hW => attributes_any s A W (hR.row.below hW) hR.nz hl
  obtain ⟨p, l, cc, rfl⟩ : ∃ p l c, s = .slice p l c := by obtain ⟨p, c, h, _⟩ := hR.row.val; exact ⟨_, _, _, h⟩
  clear hR hl
  obtain ⟨W1, hW1⟩ : ∃ W, W = (w.alloc (.cells #[.slice p l cc, .string t, .iface 228 (.int .i64 z)] 187)).alloc (.cells #[.int .i64 0, .string ⟨#[]⟩, .int .i64 0, .int .i64 0, .string ⟨#[]⟩, .int .i64 0, .slice none 0 0] 33) := ⟨_, rfl⟩
  have b0 : Below w.heap.size w W1 := by rw [hW1]; exact ((Below.refl _ _).alloc (Nat.le_refl _) _).alloc (by simp) _
  have e0 : W1.cell? ⟨w.heap.size, 0, none⟩ = some (.slice p l cc) := by rw [hW1]; simp
  have e1 : W1.cell? ⟨w.heap.size, 1, none⟩ = some (.string t) := by rw [hW1]; simp
  have e2 : W1.cell? ⟨w.heap.size, 2, none⟩ = some (.iface 228 (.int .i64 z)) := by rw [hW1]; simp
  have hB : BoxO W1 (w.heap.size + 1) opZ nilS ∧ FrO W1 (w.heap.size + 1) := by
    have q1 := BoxO.new (w.alloc (.cells #[.slice p l cc, .string t, .iface 228 (.int .i64 z)] 187)) opZ nilS
    have q2 := FrO.new (w.alloc (.cells #[.slice p l cc, .string t, .iface 228 (.int .i64 z)] 187)) opZ nilS
    rw [World.size_alloc] at q1 q2
    rw [hW1]
    exact ⟨q1, q2⟩
  go_enter Tryz.func201, Tryz.ntmps201
  go_upto_region 1 with fail
  rw [← hW1]
  clear hW1
  have HB : Hid (BoxO W1.drew (w.heap.size + 1) opZ nilS ∧ FrO W1.drew (w.heap.size + 1)) := ⟨hB.1.drew, hB.2.drew⟩
  have b1 : Below w.heap.size w W1.drew := b0.drew
  have hz1 : w.heap.size ≤ W1.drew.heap.size := b1.size
  have hz2 : w.heap.size + 1 < W1.drew.heap.size := lt_of_cell hB.1.d0
  have cA := HC.out W1.drew b1
  have n1 : w.heap.size ≠ w.heap.size + 1 := by omega
  have hs1 : w.heap.size ≤ w.heap.size + 1 := by omega
  have HU : Hid (∀ W : World, (∀ i, W.cell? ⟨w.heap.size, i, none⟩ = W1.drew.cell? ⟨w.heap.size, i, none⟩) → W.cell? ⟨w.heap.size, 0, none⟩ = some (.slice p l cc) ∧ W.cell? ⟨w.heap.size, 1, none⟩ = some (.string t) ∧ W.cell? ⟨w.heap.size, 2, none⟩ = some (.iface 228 (.int .i64 z))) := fun W h => ⟨(h 0).trans e0, (h 1).trans e1, (h 2).trans e2⟩
  have M0 := HU.out W1.drew (fun _ => rfl)
  have HW : Hid (∀ W, Below W1.drew.heap.size W1.drew W → ∀ i, W.cell? ⟨w.heap.size, i, none⟩ = W1.drew.cell? ⟨w.heap.size, i, none⟩) := fun W h i => World.cell?_of_block (a := ⟨w.heap.size, i, none⟩) (h.block w.heap.size (by omega))
  have HS : Hid (∀ W, Below W1.drew.heap.size W1.drew W → (∀ u0 u1 u2 u3 u4 u5 u6 : Value, ((((((((W.setCell ⟨w.heap.size + 1, 0, none⟩ u0).setCell ⟨w.heap.size + 1, 1, none⟩ u1).setCell ⟨w.heap.size + 1, 2, none⟩ u2).setCell ⟨w.heap.size + 1, 3, none⟩ u3).setCell ⟨w.heap.size + 1, 4, none⟩ u4).setCell ⟨w.heap.size + 1, 5, none⟩ u5).setCell ⟨w.heap.size + 1, 6, none⟩ u6).cell? ⟨w.heap.size, 0, none⟩ = some (.slice p l cc) ∧ (((((((W.setCell ⟨w.heap.size + 1, 0, none⟩ u0).setCell ⟨w.heap.size + 1, 1, none⟩ u1).setCell ⟨w.heap.size + 1, 2, none⟩ u2).setCell ⟨w.heap.size + 1, 3, none⟩ u3).setCell ⟨w.heap.size + 1, 4, none⟩ u4).setCell ⟨w.heap.size + 1, 5, none⟩ u5).setCell ⟨w.heap.size + 1, 6, none⟩ u6).cell? ⟨w.heap.size, 1, none⟩ = some (.string t) ∧ (((((((W.setCell ⟨w.heap.size + 1, 0, none⟩ u0).setCell ⟨w.heap.size + 1, 1, none⟩ u1).setCell ⟨w.heap.size + 1, 2, none⟩ u2).setCell ⟨w.heap.size + 1, 3, none⟩ u3).setCell ⟨w.heap.size + 1, 4, none⟩ u4).setCell ⟨w.heap.size + 1, 5, none⟩ u5).setCell ⟨w.heap.size + 1, 6, none⟩ u6).cell? ⟨w.heap.size, 2, none⟩ = some (.iface 228 (.int .i64 z))) ∧ Below w.heap.size w (((((((W.setCell ⟨w.heap.size + 1, 0, none⟩ u0).setCell ⟨w.heap.size + 1, 1, none⟩ u1).setCell ⟨w.heap.size + 1, 2, none⟩ u2).setCell ⟨w.heap.size + 1, 3, none⟩ u3).setCell ⟨w.heap.size + 1, 4, none⟩ u4).setCell ⟨w.heap.size + 1, 5, none⟩ u5).setCell ⟨w.heap.size + 1, 6, none⟩ u6))) := fun W h u0 u1 u2 u3 u4 u5 u6 => ⟨HU.out _ (fun i => (cell_set7 (B := w.heap.size + 1) (j := i) W n1 u0 u1 u2 u3 u4 u5 u6).trans (HW.out W h i)), below_set7 (B := w.heap.size + 1) (b1.trans (h.mono hz1)) hs1 u0 u1 u2 u3 u4 u5 u6⟩
  clear hB e0 e1 e2 b0
  go_region_held3 (fun w' => (w'.cell? ⟨w.heap.size, 0, none⟩ = some (.slice p l cc) ∧ w'.cell? ⟨w.heap.size, 1, none⟩ = some (.string t) ∧ w'.cell? ⟨w.heap.size, 2, none⟩ = some (.iface 228 (.int .i64 z))) ∧ Below w.heap.size w w')
    (first | exact ⟨by with_reducible first | assumption | exact M0 | exact MS _ _ _ _ _ _ _, by with_reducible first | assumption | exact b1 | exact BS _ _ _ _ _ _ _⟩)
    (first
      | (go_at_call 205; have hx := OA; clear hx; refine (plain_d z wA).mono ?_; rintro r wP ⟨rfl, hP⟩; have HP' := HA'.trans (hP.mono HA'.size); have bP := b1.trans (HP'.mono hz1); have mP := HU.out wP (HW.out wP HP'); have OF : Hid (OwnA wP W1.drew.heap.size (.slice pA A.length cA') A) := owns_below OA.out hP; obtain ⟨q0, q1, q2, q3, q4, q5, q6⟩ := HB.out.1.below HP'; obtain ⟨h0, h1, h2, h3, h4, h5, h6⟩ := HB.out.2.below HB.out.1 HP'; simp only [z0] at q0 q1 q2 q3 q4 q5 q6; have MS := fun u0 u1 u2 u3 u4 u5 u6 => (HS.out wP HP' u0 u1 u2 u3 u4 u5 u6).1; have BS := fun u0 u1 u2 u3 u4 u5 u6 => (HS.out wP HP' u0 u1 u2 u3 u4 u5 u6).2)
      | (go_at_call 124; refine cA2.mono ?_; rintro r wA ⟨vA, rfl, oA, hA⟩; obtain ⟨pA, cA', rfl⟩ := own_slice oA; have HA' := HP'.trans (hA.mono HP'.size); have bA := b1.trans (HA'.mono hz1); have mA := HU.out wA (HW.out wA HA'); have OA : Hid (OwnA wA W1.drew.heap.size (.slice pA A.length cA') A) := own_weaken oA HP'.size; clear oA; have OF := OA; obtain ⟨q0, q1, q2, q3, q4, q5, q6⟩ := HB.out.1.below HA'; obtain ⟨h0, h1, h2, h3, h4, h5, h6⟩ := HB.out.2.below HB.out.1 HA'; simp only [z0] at q0 q1 q2 q3 q4 q5 q6; have MS := fun u0 u1 u2 u3 u4 u5 u6 => (HS.out wA HA' u0 u1 u2 u3 u4 u5 u6).1; have BS := fun u0 u1 u2 u3 u4 u5 u6 => (HS.out wA HA' u0 u1 u2 u3 u4 u5 u6).2)
      | (go_at_call 124; refine cA.mono ?_; rintro r wA ⟨vA, rfl, oA, hA⟩; obtain ⟨pA, cA', rfl⟩ := own_slice oA; have HA' := hA; have bA := b1.trans (HA'.mono hz1); have mA := HU.out wA (HW.out wA HA'); have OA : Hid (OwnA wA W1.drew.heap.size (.slice pA A.length cA') A) := oA; clear oA)
      | (go_at_call 205; refine (plain_d z W1.drew).mono ?_; rintro r wP ⟨rfl, hP⟩; have HP' := hP; have bP := b1.trans (HP'.mono hz1); have mP := HU.out wP (HW.out wP HP'); have cA2 := HC.out wP bP))
  · have same : ∀ (u0 u1 u2 u3 u4 u5 u6 : Value) (v : Value) (hv : OwnA wA W1.drew.heap.size v A), OwnA (((((((wA.setCell ⟨w.heap.size + 1, 0, none⟩ u0).setCell ⟨w.heap.size + 1, 1, none⟩ u1).setCell ⟨w.heap.size + 1, 2, none⟩ u2).setCell ⟨w.heap.size + 1, 3, none⟩ u3).setCell ⟨w.heap.size + 1, 4, none⟩ u4).setCell ⟨w.heap.size + 1, 5, none⟩ u5).setCell ⟨w.heap.size + 1, 6, none⟩ u6) w.heap.size v A := fun u0 u1 u2 u3 u4 u5 u6 v hv =>
      own_weaken (owns_same hv fun k hk => by
        have := (owns_block hv k hk).1
        exact heap_set7 _ (by omega) _ _ _ _ _ _ _) hz1
    go_wp2
    exact bodyPost_ret (v := opV ⟨2, t, (2, z, ⟨#[]⟩), 0, []⟩ (.slice pA A.length cA')) (by simp [results, Tryz.results201, go_sem, q0, q1, q2, q3, q4, q5, q6]) rfl ⟨_, rfl, same _ _ _ _ _ _ _ _ OF.out, BS _ _ _ _ _ _ _⟩

set_option maxHeartbeats 1000000 in
set_option maxRecDepth 100000 in
theorem embOp_text (y : ByteArray) (s : Value) (A : List A2) (t : ByteArray) (w : World) (hR : RN w s A) (hl : A.length ≤ 2097152) :
    Calls Tryz.prog 201 #[.agg #[s, .string t, .iface 229 (.string y)]] w fun r w' => ∃ v', r = .returned (opV ⟨2, t, (3, 0, y), 0, []⟩ v') ∧ OwnA w' w.heap.size v' A ∧ Below w.heap.size w w' := by
  have HC : Hid (∀ W, Below w.heap.size w W → Calls Tryz.prog 124 #[.agg #[s]] W fun r w' => ∃ v', r = .returned v' ∧ OwnA w' W.heap.size v' A ∧ Below W.heap.size W w') := fun W hW => attributes_any s A W (hR.row.below hW) hR.nz hl
  obtain ⟨p, l, cc, rfl⟩ : ∃ p l c, s = .slice p l c := by obtain ⟨p, c, h, _⟩ := hR.row.val; exact ⟨_, _, _, h⟩
  clear hR hl
  obtain ⟨W1, hW1⟩ : ∃ W, W = (w.alloc (.cells #[.slice p l cc, .string t, .iface 229 (.string y)] 187)).alloc (.cells #[.int .i64 0, .string ⟨#[]⟩, .int .i64 0, .int .i64 0, .string ⟨#[]⟩, .int .i64 0, .slice none 0 0] 33) := ⟨_, rfl⟩
  have b0 : Below w.heap.size w W1 := by rw [hW1]; exact ((Below.refl _ _).alloc (Nat.le_refl _) _).alloc (by simp) _
  have e0 : W1.cell? ⟨w.heap.size, 0, none⟩ = some (.slice p l cc) := by rw [hW1]; simp
  have e1 : W1.cell? ⟨w.heap.size, 1, none⟩ = some (.string t) := by rw [hW1]; simp
  have e2 : W1.cell? ⟨w.heap.size, 2, none⟩ = some (.iface 229 (.string y)) := by rw [hW1]; simp
  have hB : BoxO W1 (w.heap.size + 1) opZ nilS ∧ FrO W1 (w.heap.size + 1) := by
    have q1 := BoxO.new (w.alloc (.cells #[.slice p l cc, .string t, .iface 229 (.string y)] 187)) opZ nilS
    have q2 := FrO.new (w.alloc (.cells #[.slice p l cc, .string t, .iface 229 (.string y)] 187)) opZ nilS
    rw [World.size_alloc] at q1 q2
    rw [hW1]
    exact ⟨q1, q2⟩
  go_enter Tryz.func201, Tryz.ntmps201
  go_upto_region 1 with fail
  rw [← hW1]
  clear hW1
  have HB : Hid (BoxO W1.drew (w.heap.size + 1) opZ nilS ∧ FrO W1.drew (w.heap.size + 1)) := ⟨hB.1.drew, hB.2.drew⟩
  have b1 : Below w.heap.size w W1.drew := b0.drew
  have hz1 : w.heap.size ≤ W1.drew.heap.size := b1.size
  have hz2 : w.heap.size + 1 < W1.drew.heap.size := lt_of_cell hB.1.d0
  have cA := HC.out W1.drew b1
  have n1 : w.heap.size ≠ w.heap.size + 1 := by omega
  have hs1 : w.heap.size ≤ w.heap.size + 1 := by omega
  have HU : Hid (∀ W : World, (∀ i, W.cell? ⟨w.heap.size, i, none⟩ = W1.drew.cell? ⟨w.heap.size, i, none⟩) → W.cell? ⟨w.heap.size, 0, none⟩ = some (.slice p l cc) ∧ W.cell? ⟨w.heap.size, 1, none⟩ = some (.string t) ∧ W.cell? ⟨w.heap.size, 2, none⟩ = some (.iface 229 (.string y))) := fun W h => ⟨(h 0).trans e0, (h 1).trans e1, (h 2).trans e2⟩
  have M0 := HU.out W1.drew (fun _ => rfl)
  have HW : Hid (∀ W, Below W1.drew.heap.size W1.drew W → ∀ i, W.cell? ⟨w.heap.size, i, none⟩ = W1.drew.cell? ⟨w.heap.size, i, none⟩) := fun W h i => World.cell?_of_block (a := ⟨w.heap.size, i, none⟩) (h.block w.heap.size (by omega))
  have HS : Hid (∀ W, Below W1.drew.heap.size W1.drew W → (∀ u0 u1 u2 u3 u4 u5 u6 : Value, ((((((((W.setCell ⟨w.heap.size + 1, 0, none⟩ u0).setCell ⟨w.heap.size + 1, 1, none⟩ u1).setCell ⟨w.heap.size + 1, 2, none⟩ u2).setCell ⟨w.heap.size + 1, 3, none⟩ u3).setCell ⟨w.heap.size + 1, 4, none⟩ u4).setCell ⟨w.heap.size + 1, 5, none⟩ u5).setCell ⟨w.heap.size + 1, 6, none⟩ u6).cell? ⟨w.heap.size, 0, none⟩ = some (.slice p l cc) ∧ (((((((W.setCell ⟨w.heap.size + 1, 0, none⟩ u0).setCell ⟨w.heap.size + 1, 1, none⟩ u1).setCell ⟨w.heap.size + 1, 2, none⟩ u2).setCell ⟨w.heap.size + 1, 3, none⟩ u3).setCell ⟨w.heap.size + 1, 4, none⟩ u4).setCell ⟨w.heap.size + 1, 5, none⟩ u5).setCell ⟨w.heap.size + 1, 6, none⟩ u6).cell? ⟨w.heap.size, 1, none⟩ = some (.string t) ∧ (((((((W.setCell ⟨w.heap.size + 1, 0, none⟩ u0).setCell ⟨w.heap.size + 1, 1, none⟩ u1).setCell ⟨w.heap.size + 1, 2, none⟩ u2).setCell ⟨w.heap.size + 1, 3, none⟩ u3).setCell ⟨w.heap.size + 1, 4, none⟩ u4).setCell ⟨w.heap.size + 1, 5, none⟩ u5).setCell ⟨w.heap.size + 1, 6, none⟩ u6).cell? ⟨w.heap.size, 2, none⟩ = some (.iface 229 (.string y))) ∧ Below w.heap.size w (((((((W.setCell ⟨w.heap.size + 1, 0, none⟩ u0).setCell ⟨w.heap.size + 1, 1, none⟩ u1).setCell ⟨w.heap.size + 1, 2, none⟩ u2).setCell ⟨w.heap.size + 1, 3, none⟩ u3).setCell ⟨w.heap.size + 1, 4, none⟩ u4).setCell ⟨w.heap.size + 1, 5, none⟩ u5).setCell ⟨w.heap.size + 1, 6, none⟩ u6))) := fun W h u0 u1 u2 u3 u4 u5 u6 => ⟨HU.out _ (fun i => (cell_set7 (B := w.heap.size + 1) (j := i) W n1 u0 u1 u2 u3 u4 u5 u6).trans (HW.out W h i)), below_set7 (B := w.heap.size + 1) (b1.trans (h.mono hz1)) hs1 u0 u1 u2 u3 u4 u5 u6⟩
  clear hB e0 e1 e2 b0
  go_region_held3 (fun w' => (w'.cell? ⟨w.heap.size, 0, none⟩ = some (.slice p l cc) ∧ w'.cell? ⟨w.heap.size, 1, none⟩ = some (.string t) ∧ w'.cell? ⟨w.heap.size, 2, none⟩ = some (.iface 229 (.string y))) ∧ Below w.heap.size w w')
    (first | exact ⟨by with_reducible first | assumption | exact M0 | exact MS _ _ _ _ _ _ _, by with_reducible first | assumption | exact b1 | exact BS _ _ _ _ _ _ _⟩)
    (first
      | (go_at_call 207; have hx := OA; clear hx; refine (plain_t y wA).mono ?_; rintro r wP ⟨rfl, hP⟩; have HP' := HA'.trans (hP.mono HA'.size); have bP := b1.trans (HP'.mono hz1); have mP := HU.out wP (HW.out wP HP'); have OF : Hid (OwnA wP W1.drew.heap.size (.slice pA A.length cA') A) := owns_below OA.out hP; obtain ⟨q0, q1, q2, q3, q4, q5, q6⟩ := HB.out.1.below HP'; obtain ⟨h0, h1, h2, h3, h4, h5, h6⟩ := HB.out.2.below HB.out.1 HP'; simp only [z0] at q0 q1 q2 q3 q4 q5 q6; have MS := fun u0 u1 u2 u3 u4 u5 u6 => (HS.out wP HP' u0 u1 u2 u3 u4 u5 u6).1; have BS := fun u0 u1 u2 u3 u4 u5 u6 => (HS.out wP HP' u0 u1 u2 u3 u4 u5 u6).2)
      | (go_at_call 124; refine cA2.mono ?_; rintro r wA ⟨vA, rfl, oA, hA⟩; obtain ⟨pA, cA', rfl⟩ := own_slice oA; have HA' := HP'.trans (hA.mono HP'.size); have bA := b1.trans (HA'.mono hz1); have mA := HU.out wA (HW.out wA HA'); have OA : Hid (OwnA wA W1.drew.heap.size (.slice pA A.length cA') A) := own_weaken oA HP'.size; clear oA; have OF := OA; obtain ⟨q0, q1, q2, q3, q4, q5, q6⟩ := HB.out.1.below HA'; obtain ⟨h0, h1, h2, h3, h4, h5, h6⟩ := HB.out.2.below HB.out.1 HA'; simp only [z0] at q0 q1 q2 q3 q4 q5 q6; have MS := fun u0 u1 u2 u3 u4 u5 u6 => (HS.out wA HA' u0 u1 u2 u3 u4 u5 u6).1; have BS := fun u0 u1 u2 u3 u4 u5 u6 => (HS.out wA HA' u0 u1 u2 u3 u4 u5 u6).2)
      | (go_at_call 124; refine cA.mono ?_; rintro r wA ⟨vA, rfl, oA, hA⟩; obtain ⟨pA, cA', rfl⟩ := own_slice oA; have HA' := hA; have bA := b1.trans (HA'.mono hz1); have mA := HU.out wA (HW.out wA HA'); have OA : Hid (OwnA wA W1.drew.heap.size (.slice pA A.length cA') A) := oA; clear oA)
      | (go_at_call 207; refine (plain_t y W1.drew).mono ?_; rintro r wP ⟨rfl, hP⟩; have HP' := hP; have bP := b1.trans (HP'.mono hz1); have mP := HU.out wP (HW.out wP HP'); have cA2 := HC.out wP bP))
  · have same : ∀ (u0 u1 u2 u3 u4 u5 u6 : Value) (v : Value) (hv : OwnA wA W1.drew.heap.size v A), OwnA (((((((wA.setCell ⟨w.heap.size + 1, 0, none⟩ u0).setCell ⟨w.heap.size + 1, 1, none⟩ u1).setCell ⟨w.heap.size + 1, 2, none⟩ u2).setCell ⟨w.heap.size + 1, 3, none⟩ u3).setCell ⟨w.heap.size + 1, 4, none⟩ u4).setCell ⟨w.heap.size + 1, 5, none⟩ u5).setCell ⟨w.heap.size + 1, 6, none⟩ u6) w.heap.size v A := fun u0 u1 u2 u3 u4 u5 u6 v hv =>
      own_weaken (owns_same hv fun k hk => by
        have := (owns_block hv k hk).1
        exact heap_set7 _ (by omega) _ _ _ _ _ _ _) hz1
    go_wp2
    exact bodyPost_ret (v := opV ⟨2, t, (3, 0, y), 0, []⟩ (.slice pA A.length cA')) (by simp [results, Tryz.results201, go_sem, q0, q1, q2, q3, q4, q5, q6]) rfl ⟨_, rfl, same _ _ _ _ _ _ _ _ OF.out, BS _ _ _ _ _ _ _⟩
end Go.Proofs.YtplnojapnaaakaaGreatDoor

/- What the methods Op of pieces answer. -/
namespace Go.Proofs.YtplnojapnaaakaaGreatDoor
open Go Go.RowKit Go.Lib
set_option linter.unusedVariables false
set_option maxHeartbeats 1000000 in
set_option maxRecDepth 100000 in
theorem retOp (s : Value) (A : List A2) (n : Int) (w : World) (hR : RN w s A) (hl : A.length ≤ 2097152) :
    Calls Tryz.prog 197 #[.agg #[s, .int .i64 n]] w fun r w' => ∃ v', r = .returned (opV ⟨3, ⟨#[]⟩, z0, n, []⟩ v') ∧ OwnA w' w.heap.size v' A ∧ Below w.heap.size w w' := by
  have HC : Hid (∀ W, Below w.heap.size w W → Calls Tryz.prog 124 #[.agg #[s]] W fun r w' => ∃ v', r = .returned v' ∧ OwnA w' W.heap.size v' A ∧ Below W.heap.size W w') := fun W hW => attributes_any s A W (hR.row.below hW) hR.nz hl
  obtain ⟨p, l, cc, rfl⟩ : ∃ p l c, s = .slice p l c := by obtain ⟨p, c, h, _⟩ := hR.row.val; exact ⟨_, _, _, h⟩
  clear hR hl
  obtain ⟨W1, hW1⟩ : ∃ W, W = (w.alloc (.cells #[.slice p l cc, .int .i64 n] 151)).alloc (.cells #[.int .i64 0, .string ⟨#[]⟩, .int .i64 0, .int .i64 0, .string ⟨#[]⟩, .int .i64 0, .slice none 0 0] 33) := ⟨_, rfl⟩
  have b0 : Below w.heap.size w W1 := by rw [hW1]; exact ((Below.refl _ _).alloc (Nat.le_refl _) _).alloc (by simp) _
  have e0 : W1.cell? ⟨w.heap.size, 0, none⟩ = some (.slice p l cc) := by rw [hW1]; simp
  have e1 : W1.cell? ⟨w.heap.size, 1, none⟩ = some (.int .i64 n) := by rw [hW1]; simp
  have hB : BoxO W1 (w.heap.size + 1) opZ nilS ∧ FrO W1 (w.heap.size + 1) := by
    have q1 := BoxO.new (w.alloc (.cells #[.slice p l cc, .int .i64 n] 151)) opZ nilS
    have q2 := FrO.new (w.alloc (.cells #[.slice p l cc, .int .i64 n] 151)) opZ nilS
    rw [World.size_alloc] at q1 q2
    rw [hW1]
    exact ⟨q1, q2⟩
  go_enter Tryz.func197, Tryz.ntmps197
  go_upto_region 1 with fail
  rw [← hW1]
  clear hW1
  have HB : Hid (BoxO W1.drew (w.heap.size + 1) opZ nilS ∧ FrO W1.drew (w.heap.size + 1)) := ⟨hB.1.drew, hB.2.drew⟩
  have b1 : Below w.heap.size w W1.drew := b0.drew
  have hz1 : w.heap.size ≤ W1.drew.heap.size := b1.size
  have hz2 : w.heap.size + 1 < W1.drew.heap.size := lt_of_cell hB.1.d0
  have cA := HC.out W1.drew b1
  have n1 : w.heap.size ≠ w.heap.size + 1 := by omega
  have hs1 : w.heap.size ≤ w.heap.size + 1 := by omega
  have HU : Hid (∀ W : World, (∀ i, W.cell? ⟨w.heap.size, i, none⟩ = W1.drew.cell? ⟨w.heap.size, i, none⟩) → W.cell? ⟨w.heap.size, 0, none⟩ = some (.slice p l cc) ∧ W.cell? ⟨w.heap.size, 1, none⟩ = some (.int .i64 n)) := fun W h => ⟨(h 0).trans e0, (h 1).trans e1⟩
  have M0 := HU.out W1.drew (fun _ => rfl)
  have HW : Hid (∀ W, Below W1.drew.heap.size W1.drew W → ∀ i, W.cell? ⟨w.heap.size, i, none⟩ = W1.drew.cell? ⟨w.heap.size, i, none⟩) := fun W h i => World.cell?_of_block (a := ⟨w.heap.size, i, none⟩) (h.block w.heap.size (by omega))
  have HS : Hid (∀ W, Below W1.drew.heap.size W1.drew W → (∀ u0 u1 u2 u3 u4 u5 u6 : Value, ((((((((W.setCell ⟨w.heap.size + 1, 0, none⟩ u0).setCell ⟨w.heap.size + 1, 1, none⟩ u1).setCell ⟨w.heap.size + 1, 2, none⟩ u2).setCell ⟨w.heap.size + 1, 3, none⟩ u3).setCell ⟨w.heap.size + 1, 4, none⟩ u4).setCell ⟨w.heap.size + 1, 5, none⟩ u5).setCell ⟨w.heap.size + 1, 6, none⟩ u6).cell? ⟨w.heap.size, 0, none⟩ = some (.slice p l cc) ∧ (((((((W.setCell ⟨w.heap.size + 1, 0, none⟩ u0).setCell ⟨w.heap.size + 1, 1, none⟩ u1).setCell ⟨w.heap.size + 1, 2, none⟩ u2).setCell ⟨w.heap.size + 1, 3, none⟩ u3).setCell ⟨w.heap.size + 1, 4, none⟩ u4).setCell ⟨w.heap.size + 1, 5, none⟩ u5).setCell ⟨w.heap.size + 1, 6, none⟩ u6).cell? ⟨w.heap.size, 1, none⟩ = some (.int .i64 n)) ∧ Below w.heap.size w (((((((W.setCell ⟨w.heap.size + 1, 0, none⟩ u0).setCell ⟨w.heap.size + 1, 1, none⟩ u1).setCell ⟨w.heap.size + 1, 2, none⟩ u2).setCell ⟨w.heap.size + 1, 3, none⟩ u3).setCell ⟨w.heap.size + 1, 4, none⟩ u4).setCell ⟨w.heap.size + 1, 5, none⟩ u5).setCell ⟨w.heap.size + 1, 6, none⟩ u6))) := fun W h u0 u1 u2 u3 u4 u5 u6 => ⟨HU.out _ (fun i => (cell_set7 (B := w.heap.size + 1) (j := i) W n1 u0 u1 u2 u3 u4 u5 u6).trans (HW.out W h i)), below_set7 (B := w.heap.size + 1) (b1.trans (h.mono hz1)) hs1 u0 u1 u2 u3 u4 u5 u6⟩
  clear hB e0 e1 b0
  go_region_held3 (fun w' => (w'.cell? ⟨w.heap.size, 0, none⟩ = some (.slice p l cc) ∧ w'.cell? ⟨w.heap.size, 1, none⟩ = some (.int .i64 n)) ∧ Below w.heap.size w w')
    (first | exact ⟨by with_reducible first | assumption | exact M0 | exact MS _ _ _ _ _ _ _, by with_reducible first | assumption | exact b1 | exact BS _ _ _ _ _ _ _⟩)
    (first
      | (go_at_call 124; refine cA.mono ?_; rintro r wA ⟨vA, rfl, oA, hA⟩; obtain ⟨pA, cA', rfl⟩ := own_slice oA; have HA' := hA; have bA := b1.trans (HA'.mono hz1); have mA := HU.out wA (HW.out wA HA'); have OA : Hid (OwnA wA W1.drew.heap.size (.slice pA A.length cA') A) := oA; clear oA; obtain ⟨q0, q1, q2, q3, q4, q5, q6⟩ := HB.out.1.below HA'; obtain ⟨h0, h1, h2, h3, h4, h5, h6⟩ := HB.out.2.below HB.out.1 HA'; simp only [z0] at q0 q1 q2 q3 q4 q5 q6; have MS := fun u0 u1 u2 u3 u4 u5 u6 => (HS.out wA HA' u0 u1 u2 u3 u4 u5 u6).1; have BS := fun u0 u1 u2 u3 u4 u5 u6 => (HS.out wA HA' u0 u1 u2 u3 u4 u5 u6).2))
  · have same : ∀ (u0 u1 u2 u3 u4 u5 u6 : Value) (v : Value) (hv : OwnA wA W1.drew.heap.size v A), OwnA (((((((wA.setCell ⟨w.heap.size + 1, 0, none⟩ u0).setCell ⟨w.heap.size + 1, 1, none⟩ u1).setCell ⟨w.heap.size + 1, 2, none⟩ u2).setCell ⟨w.heap.size + 1, 3, none⟩ u3).setCell ⟨w.heap.size + 1, 4, none⟩ u4).setCell ⟨w.heap.size + 1, 5, none⟩ u5).setCell ⟨w.heap.size + 1, 6, none⟩ u6) w.heap.size v A := fun u0 u1 u2 u3 u4 u5 u6 v hv =>
      own_weaken (owns_same hv fun k hk => by
        have := (owns_block hv k hk).1
        exact heap_set7 _ (by omega) _ _ _ _ _ _ _) hz1
    go_wp2
    exact bodyPost_ret (v := opV ⟨3, ⟨#[]⟩, z0, n, []⟩ (.slice pA A.length cA')) (by simp [results, Tryz.results197, go_sem, z0, q0, q1, q2, q3, q4, q5, q6]) rfl ⟨_, rfl, same _ _ _ _ _ _ _ _ OA.out, BS _ _ _ _ _ _ _⟩

set_option maxHeartbeats 1000000 in
theorem delOp (n : Int) (w : World) :
    Calls Tryz.prog 195 #[.agg #[.int .i64 n]] w fun r w' => r = .returned (opV ⟨4, ⟨#[]⟩, z0, n, []⟩ (.slice none 0 0)) ∧ Below w.heap.size w w' := by
  go_enter Tryz.func195, Tryz.ntmps195
  go_wp2
  exact bodyPost_ret (v := opV ⟨4, ⟨#[]⟩, z0, n, []⟩ (.slice none 0 0)) (by simp [results, Tryz.results195, go_sem, z0]) rfl ⟨rfl, by go_grown⟩
theorem embOp_any (s : Value) (A : List A2) (t : ByteArray) (v : P3) (w : World) (hv : chkP v = 0) (hR : RN w s A) (hl : A.length ≤ 2097152) :
    Calls Tryz.prog 201 #[.agg #[s, .string t, valP v]] w fun r w' => ∃ v', r = .returned (opV ⟨2, t, v, 0, []⟩ v') ∧ OwnA w' w.heap.size v' A ∧ Below w.heap.size w w' := by
  obtain ⟨x, z, u⟩ := v
  rcases good_cases hv with ⟨rfl, rfl, rfl⟩ | ⟨rfl, rfl, rfl⟩ | ⟨rfl, rfl, rfl⟩ | ⟨rfl, rfl⟩ | ⟨rfl, rfl, _⟩
  · exact embOp_null s A t w hR hl
  · exact embOp_flag0 s A t w hR hl
  · exact embOp_flag1 s A t w hR hl
  · exact embOp_num z s A t w hR hl
  · exact embOp_text u s A t w hR hl
theorem opQ_1 {e : Op5} (hg : opE e = 0) (hk : e.k = 1) (s : Value) (w : World) (hR : RN w s e.A) (hl : e.A.length ≤ 2097152) :
    Calls Tryz.prog 199 #[.agg #[s, .string e.t, .int .i64 (scs e.t.data.toList).length]] w fun r w' => ∃ v', r = .returned (opV e v') ∧ OwnA w' w.heap.size v' e.A ∧ Below w.heap.size w w' := by
  refine (insOp s e.A e.t _ w hR hl).mono fun r w' ⟨v', h1, h2, h3⟩ => ⟨v', ?_, h2, h3⟩
  rw [h1]
  rcases op_good hg with ⟨hi, _⟩ | ⟨_, _, h⟩ | ⟨_, _, h⟩
  · have hc := hi.count
    rcases hi.kind with ⟨_, hv⟩ | ⟨h2, _⟩
    · obtain ⟨k, t, v, c, A⟩ := e
      simp only at hk hv hc
      subst hk hv hc
      rfl
    · omega
  · omega
  · omega
theorem opQ_2 {e : Op5} (hg : opE e = 0) (hk : e.k = 2) (s : Value) (w : World) (hR : RN w s e.A) (hl : e.A.length ≤ 2097152) :
    Calls Tryz.prog 201 #[.agg #[s, .string e.t, valP e.v]] w fun r w' => ∃ v', r = .returned (opV e v') ∧ OwnA w' w.heap.size v' e.A ∧ Below w.heap.size w w' := by
  rcases op_good hg with ⟨hi, _⟩ | ⟨_, _, h⟩ | ⟨_, _, h⟩
  · refine (embOp_any s e.A e.t e.v w hi.val hR hl).mono fun r w' ⟨v', h1, h2, h3⟩ => ⟨v', ?_, h2, h3⟩
    rw [h1]
    have hc := hi.count
    obtain ⟨k, t, v, c, A⟩ := e
    simp only at hk hc
    subst hk hc
    rfl
  · omega
  · omega
theorem cnt_flds {e : Op5} (h : Cnt e) : e.t = ⟨#[]⟩ ∧ e.v = z0 := by
  refine ⟨?_, h.val⟩
  have := h.text
  have h0 : e.t.toList = [] := List.isEmpty_iff.1 this
  rw [toList_data] at h0
  exact ByteArray.ext (Array.ext' h0)
theorem opQ_3 {e : Op5} (hg : opE e = 0) (hk : e.k = 3) (s : Value) (w : World) (hR : RN w s e.A) (hl : e.A.length ≤ 2097152) :
    Calls Tryz.prog 197 #[.agg #[s, .int .i64 e.c]] w fun r w' => ∃ v', r = .returned (opV e v') ∧ OwnA w' w.heap.size v' e.A ∧ Below w.heap.size w w' := by
  refine (retOp s e.A e.c w hR hl).mono fun r w' ⟨v', h1, h2, h3⟩ => ⟨v', ?_, h2, h3⟩
  rw [h1]
  rcases op_good hg with ⟨_, h⟩ | ⟨hc, _, _⟩ | ⟨_, _, h⟩
  · omega
  · obtain ⟨ht, hv⟩ := cnt_flds hc
    obtain ⟨k, t, v, c, A⟩ := e
    simp only at hk ht hv
    subst hk ht hv
    rfl
  · omega
theorem opQ_4 {e : Op5} (hg : opE e = 0) (hk : e.k = 4) (w : World) :
    Calls Tryz.prog 195 #[.agg #[.int .i64 e.c]] w fun r w' => ∃ v', r = .returned (opV e v') ∧ OwnA w' w.heap.size v' e.A ∧ Below w.heap.size w w' := by
  refine (delOp e.c w).mono fun r w' ⟨h1, h3⟩ => ⟨.slice none 0 0, ?_, ?_, h3⟩
  · rw [h1]
    rcases op_good hg with ⟨_, h⟩ | ⟨_, _, h⟩ | ⟨hc, _, _⟩
    · omega
    · omega
    · obtain ⟨ht, hv⟩ := cnt_flds hc
      obtain ⟨k, t, v, c, A⟩ := e
      simp only at hk ht hv
      subst hk ht hv
      rfl
  · rw [drop_A hg hk]; exact ⟨rfl, Or.inl ⟨rfl, rfl⟩⟩
end Go.Proofs.YtplnojapnaaakaaGreatDoor
