/- The document's deltas: Len. vellumhand.Make, Is; vellumlaw06's gone, text, large, lives. vellumlaw06.lives answers true. Canonical lists of operations in order are in order. The canonical list while it is made: sizes. The document's deltas: Canonical. The document's op, Doc, Of, SameList of layer 9. vellumlaw09.large, vellumlaw09.lives. vellumhand.Ops: operations as new memory, with spare room. The errors' numbers: what vellumnum.list and vellumnum.Num answer where all nineteen sentinels lie as laid. vellumhand.Kept and vellumlaw03.same. vellumhand.KeptOps: what Ops made is still what it made. vellumspare.Spoil: writes over operations and their lists, and nothing else. vellumhand.OverOps: operations written over, their lists too, and grown. What writing over a list leaves of deltas; build.Same. Of all lists of cells vellumlaw09.CellsBack answers true. Of all lists of cells vellumlaw09.CellsBack answers true. -/
import Derived.Test.YtalfdjglbbmjcabGreatDoorMgf
import Derived.Test.YtalfdjglbbmjcabGreatDoorMga
import Derived.Test.YtalfdjglbbmjcabGreatDoorMgd
import Derived.Test.YtalfdjglbbmjcabGreatDoorOw
import Derived.Deep.RegionHeld3
import Derived.Test.YtalfdjglbbmjcabGreatDoorMge
import Derived.Deep.DeepCutAuto
import Derived.Test.YtalfdjglbbmjcabGreatDoorEr
import Derived.Test.YtalfdjglbbmjcabGreatDoorSpo

/- The document's deltas: Len. -/
namespace Go.Proofs.YtalfdjglbbmjcabGreatDoor
open Go Go.RowKit Go.Lib
set_option linter.unusedVariables false
end Go.Proofs.YtalfdjglbbmjcabGreatDoor

/- vellumhand.Make, Is; vellumlaw06's gone, text, large, lives. -/
namespace Go.Proofs.YtalfdjglbbmjcabGreatDoor
open Go Go.RowKit Go.Lib
set_option linter.unusedVariables false

set_option maxHeartbeats 1000000 in
theorem make_any {I : List Nat} {a : Nat → Addr} (v : Value) (E : List Op5) (w : World) (hI : ∀ i ∈ IxO, i ∈ I) (hS : Std I a w) (hv : ReO w v E) (hF : FitL E) (hl : E.length ≤ 1048576) (ht : txtS E ≤ 8388608) :
    Calls Tryz.prog 20 #[v] w fun r w' => ∃ dv, r = .returned dv ∧ ((ofE 0 0 E).2 = 0 → DelV w' w.heap.size w.heap.size dv (canonL E)) ∧ ((ofE 0 0 E).2 ≠ 0 → dv = .pointer none) ∧ Below w.heap.size w w' := by
  have c1 := buildOf_any v E w hI hS hv hF hl ht
  obtain ⟨D, ⟨p, cap, rfl, _, _, _⟩, hre⟩ := hv
  rw [forall2_len hre] at c1 ⊢
  clear hS hI hF hre ht
  obtain ⟨x, hx⟩ : ∃ x, ofE 0 0 E = x := ⟨_, rfl⟩
  rw [hx] at c1 ⊢
  clear hx
  obtain ⟨i, e⟩ := x
  obtain ⟨i1, hi1⟩ : ∃ z : Int, (i : Int) = z := ⟨_, rfl⟩
  simp only at c1 ⊢
  rw [hi1] at c1
  clear hi1
  cases e with
  | zero =>
    rw [errOf_zero] at c1
    go_enter Tryz.func20, Tryz.ntmps20
    go_wp2_with fail
    refine c1.mono ?_; rintro r w2 ⟨dv, rfl, hd, _, hb2⟩
    obtain ⟨q, pv, PL, rfl, hq⟩ := hd (by first | trivial | rfl)
    have HD : Hid (DelV w2 w.heap.size w.heap.size (.pointer (some ⟨q, 0, none⟩)) (canonL E)) := ⟨q, pv, PL, rfl, hq⟩
    clear c1 hd hq
    go_wp2
    go_ret
    exact ⟨_, rfl, fun _ => HD.out, fun h => absurd rfl h, hb2⟩
  | succ e =>
    rw [errOf_succ] at c1
    go_enter Tryz.func20, Tryz.ntmps20
    go_wp2_with fail
    refine c1.mono ?_; rintro r w2 ⟨dv, rfl, _, hd, hb2⟩
    obtain rfl := hd (by omega)
    clear c1 hd
    go_wp2
    go_ret
    exact ⟨_, rfl, fun h => (by cases h), fun _ => rfl, hb2⟩
/-- Lists that the calls read. -/
structure OkR (E : List Op5) : Prop where
  n : ∀ o ∈ E, o.A.length ≤ 1048576
  len : E.length ≤ 2097152
set_option maxHeartbeats 1000000 in
theorem is_any {B1 B2 : Nat} (d v : Value) (E F : List Op5) (w : World) (h : DelV w B1 B2 d E) (hg : ∀ o ∈ E, opE o = 0) (hE : OkR E) (hv : ReO w v F) (hF : OkR F) :
    Calls Tryz.prog 18 #[d, v] w fun r w' => r = .returned (.bool (decide (E = F))) ∧ Below w.heap.size w w' := by
  have c1 := ops_any d E w h hg (fun o ho => by have := hE.n o ho; omega) (by have := hE.len; omega)
  have c2 : Hid (∀ W v', Below w.heap.size w W → ReO W v' E → Calls Tryz.prog 46 #[v', v] W fun r w' => r = .returned (.bool (decide (E = F))) ∧ Below W.heap.size W w') := fun W v' hW h' => same6_any v' v E F W h' (hv.below hW) hE.len hF.len hE.n hF.n
  have c3 : Hid (∀ W, Below w.heap.size w W → Calls Tryz.prog 47 #[d] W fun e w' => e = .returned (.int .i64 E.length) ∧ Below W.heap.size W w') := fun W hW => count_any5 d E W (h.below hW)
  obtain ⟨q, pv, PL, rfl, _⟩ := h
  obtain ⟨D, ⟨p, cap, rfl, _, _, _⟩, hre⟩ := hv
  have hl := forall2_len hre
  rw [hl] at c2 ⊢
  obtain ⟨R, hR⟩ : ∃ x, decide (E = F) = x := ⟨_, rfl⟩
  rw [hR] at c2 ⊢
  have hlen : R = true → ((E.length : Int) == (F.length : Int)) = true := fun h => by
    rw [h] at hR
    rw [of_decide_eq_true hR]; simp
  clear hg hE hF hre hl hR
  go_enter Tryz.func18, Tryz.ntmps18
  go_wp2_with fail
  refine c1.mono ?_; rintro r w2 ⟨v', rfl, hco, hb2⟩
  have c4 := c2.out w2 v' hb2 hco.re
  clear c1 c2 hco
  go_wp2_with fail
  refine c4.mono ?_; rintro r w3 ⟨rfl, hb3⟩
  have b3 := hb2.trans (hb3.mono hb2.size)
  clear c4 hb2 hb3
  cases R with
  | true =>
    have c5 := c3.out w3 b3
    have hl2 := hlen rfl
    clear c3 hlen
    go_wp2_with fail
    refine c5.mono ?_; rintro r w4 ⟨rfl, hb4⟩
    have b4 := b3.trans (hb4.mono b3.size)
    clear c5 b3 hb4
    go_wp2
    go_ret
    exact ⟨rfl, b4⟩
  | false =>
    clear c3 hlen
    go_wp2
    go_ret
    exact ⟨rfl, b3⟩
/-- A text to insert. -/
def txtO (t : ByteArray) : Op5 := ⟨1, t, z0, 0, []⟩
/-- How large a list is. -/
def larN (E : List Op5) : Int := (E.map fun o => (o.t.size : Int) + 10 * o.A.length + 10).sum
theorem larN_append (E F : List Op5) : larN (E ++ F) = larN E + larN F := by unfold larN; rw [List.map_append, List.sum_append]
theorem larN_one (o : Op5) : larN [o] = (o.t.size : Int) + 10 * o.A.length + 10 := by simp [larN]
theorem larN_le {E : List Op5} (h : FitL E) : 0 ≤ larN E ∧ larN E ≤ 20000000 * E.length := by
  induction E with
  | nil => simp [larN]
  | cons o r ih =>
    obtain ⟨h1, h2⟩ := ih (fun x hx => h x (List.mem_cons_of_mem _ hx))
    have ho := h o (List.mem_cons_self ..)
    have e : larN (o :: r) = (o.t.size : Int) + 10 * o.A.length + 10 + larN r := by simp [larN]
    have a1 := ho.t
    have a2 := ho.n
    rw [e, List.length_cons]
    omega
theorem larN_txt (E : List Op5) : (txtS E : Int) + 10 * E.length ≤ larN E := by
  induction E with
  | nil => simp [larN, txtS]
  | cons o r ih =>
    have e : larN (o :: r) = (o.t.size : Int) + 10 * o.A.length + 10 + larN r := by simp [larN]
    have e2 : txtS (o :: r) = o.t.size + txtS r := by simp [txtS]
    rw [e, e2, List.length_cons]
    omega
theorem larN_mem {E : List Op5} {o : Op5} (h : o ∈ E) : (o.t.size : Int) + 10 * o.A.length + 10 ≤ larN E := by
  induction E with
  | nil => cases h
  | cons x r ih =>
    have e : larN (x :: r) = (x.t.size : Int) + 10 * x.A.length + 10 + larN r := by simp [larN]
    have := larN_txt r
    rcases List.mem_cons.1 h with rfl | h
    · omega
    · have := ih h; omega
end Go.Proofs.YtalfdjglbbmjcabGreatDoor

/- vellumlaw06.lives answers true. -/
namespace Go.Proofs.YtalfdjglbbmjcabGreatDoor
open Go Go.RowKit Go.Lib
set_option linter.unusedVariables false

/-- A row of operations laid at once. -/
theorem row_blk {w : World} {b : Nat} {D : List OV} (h : w.heap[b]? = some (.cells (cellsO D).toArray 69 (0, 0))) : RowO w (.slice (some ⟨b, 0, none⟩) D.length D.length) D := by
  refine ⟨some ⟨b, 0, none⟩, D.length, rfl, Nat.le_refl _, fun h => (by cases h), fun j d hd => ⟨b, 0, rfl, ?_⟩⟩
  obtain ⟨k0, k1, k2, k3, k4, k5, k6⟩ := cellsO_get D j d hd
  have e : ∀ i u, (cellsO D)[i]? = some u → w.cell? ⟨b, i, none⟩ = some u := fun i u hu => by
    rw [cell_of_heap h]
    rw [List.getElem?_toArray]
    exact hu
  rw [Nat.zero_add]
  exact ⟨e _ _ k0, e _ _ k1, e _ _ k2, e _ _ k3, e _ _ k4, e _ _ k5, e _ _ k6⟩
/-- An operation without attributes, as it lies in memory. -/
abbrev ovN (o : Op5) : OV := (o.k, o.t, o.v, o.c, (none, 0, 0))
theorem re_blk {w : World} {b : Nat} {E : List Op5} (h : w.heap[b]? = some (.cells (cellsO (E.map ovN)).toArray 69 (0, 0))) (hA : ∀ o ∈ E, o.A = []) : ReO w (.slice (some ⟨b, 0, none⟩) E.length E.length) E := by
  refine ⟨E.map ovN, ?_, ?_⟩
  · have := row_blk h
    rw [List.length_map] at this
    exact this
  · clear h
    induction E with
    | nil => exact .nil
    | cons o r ih =>
      refine .cons ⟨rfl, rfl, rfl, rfl, ?_⟩ (ih fun x hx => hA x (List.mem_cons_of_mem _ hx))
      rw [hA o (List.mem_cons_self ..)]
      exact RN.nil w
def live0 : List Op5 := [delO 1, txtO ⟨#[97]⟩, delO 2, txtO ⟨#[98]⟩, ⟨3, ⟨#[]⟩, z0, 3, []⟩]
def live1 : List Op5 := [txtO ⟨#[97, 98]⟩, delO 3]
theorem live0_ok : ofE 0 0 live0 = (0, 0) := by kernel_rfl
theorem live0_canon : canonL live0 = live1 := by kernel_rfl
theorem fit_nil {o : Op5} (h1 : o.t.size ≤ 8388608) (h2 : o.v.2.2.size ≤ 1048576) (h3 : o.A = []) : Fit o := ⟨h1, h2, fun q hq => (by rw [h3] at hq; cases hq), by rw [h3]; simp⟩
theorem live0_nil : ∀ o ∈ live0, o.A = [] := by
  intro o ho
  simp only [live0, List.mem_cons, List.not_mem_nil, or_false] at ho
  rcases ho with rfl | rfl | rfl | rfl | rfl <;> rfl
theorem live1_nil : ∀ o ∈ live1, o.A = [] := by
  intro o ho
  simp only [live1, List.mem_cons, List.not_mem_nil, or_false] at ho
  rcases ho with rfl | rfl <;> rfl
theorem live0_fit : FitL live0 := by
  intro o ho
  refine fit_nil ?_ ?_ (live0_nil o ho)
  all_goals
    simp only [live0, List.mem_cons, List.not_mem_nil, or_false] at ho
    rcases ho with rfl | rfl | rfl | rfl | rfl <;> decide
theorem live1_okR : OkR live1 := ⟨fun o ho => by rw [live1_nil o ho]; simp, by decide⟩
theorem live1_good : ∀ o ∈ live1, opE o = 0 := by
  intro o ho
  simp only [live1, List.mem_cons, List.not_mem_nil, or_false] at ho
  rcases ho with rfl | rfl <;> kernel_rfl
end Go.Proofs.YtalfdjglbbmjcabGreatDoor

/- Canonical lists of operations in order are in order. -/
namespace Go.Proofs.YtalfdjglbbmjcabGreatDoor
open Go Go.RowKit Go.Lib
set_option linter.unusedVariables false

theorem trim_sub (P : List Op5) : (∀ x ∈ trimL P, x ∈ P) ∧ txtS (trimL P) ≤ txtS P ∧ (trimL P).length ≤ P.length := by
  rcases List.eq_nil_or_concat P with rfl | ⟨F, x, rfl⟩
  · exact ⟨fun x h => h, Nat.le_refl _, Nat.le_refl _⟩
  · rw [List.concat_eq_append]
    have e : trimL (F ++ [x]) = if plainR x then F else F ++ [x] := by
      unfold trimL
      rw [List.getLast?_concat, List.dropLast_concat]
    rw [e]
    split
    · exact ⟨fun y h => List.mem_append_left _ h, by rw [txtS_append]; omega, by simp⟩
    · exact ⟨fun y h => h, Nat.le_refl _, Nat.le_refl _⟩
/-- The canonical list of operations in order is in order, and no greater. -/
theorem canon_ok {E : List Op5} (h : OkE E) : OkE (canonL E) ∧ txtS (canonL E) ≤ txtS E ∧ (canonL E).length ≤ E.length := by
  have hz : BSz (bldR E) E.length (txtS E) := by
    have := bldR_sz E BSz.nil h.fit
    rw [Nat.zero_add, Nat.zero_add] at this
    exact this
  obtain ⟨c1, c2, c3, c4⟩ := canon_spec h.wel
  obtain ⟨s1, s2⟩ := canon_sums h.wel
  have key : (∀ x ∈ canonL E, FitA x) ∧ txtS (canonL E) ≤ txtS E ∧ (canonL E).length ≤ E.length := by
    rw [← finB_canon h.wel]
    obtain ⟨a, b, c⟩ := hz.set
    have a2 := hz.fit
    have b2 := hz.txt
    have c2 := hz.len
    unfold finB
    by_cases h0 : 0 < (bldR E).2
    · rw [if_pos h0]
      unfold setB at a b c
      rw [if_pos h0] at a b c
      exact ⟨a, b, c⟩
    · rw [if_neg h0]
      obtain ⟨t1, t2, t3⟩ := trim_sub (bldR E).1
      exact ⟨fun x hx => a2 x (t1 x hx), by omega, by omega⟩
  have hb := h.base
  have hr := h.res
  have ht := h.txt
  have hl := h.len
  exact ⟨⟨wel_good c1 (by omega), key.1, by omega, by omega, by omega, by omega⟩, key.2⟩
theorem OkE.okR {E : List Op5} (h : OkE E) (hl : E.length ≤ 2097152) : OkR E := ⟨fun o ho => (h.fit o ho).n, hl⟩
theorem OkE.fitL {E : List Op5} (h : OkE E) : FitL E := fitA_all h.fit h.txt
/-- A list that isn't large. -/
theorem small_of {E : List Op5} (h : decide (60000 < larN E) = false) : txtS E ≤ 60000 ∧ E.length ≤ 6000 ∧ ∀ o ∈ E, o.A.length ≤ 6000 := by
  have h1 := of_decide_eq_false h
  have h2 := larN_txt E
  exact ⟨by omega, by omega, fun o ho => by have := larN_mem ho; omega⟩
/-- What a loop over a list of the call's own and over a row of pieces reads. -/
theorem both_read {w : World} {B1 B2 : Nat} {v1 v2 : Value} {P : List Value} {C : List Op5} (h1 : CoO w B1 v1 C) (h2 : OwnI w B2 v2 P) (h3 : PieD w B2 P C) :
    ∃ p1 c1 p2 c2, v1 = .slice p1 C.length c1 ∧ v2 = .slice p2 C.length c2 ∧ ∀ m, m < C.length → ∃ (e : Op5) (d : OV) (b ga : Nat) (s : Value), C[m]? = some e ∧ p1 = some ⟨b, 0, none⟩ ∧ OpAt w b (0 + m * 7) d ∧ ovV d = opV e (slV d.2.2.2.2) ∧ d.1 = e.k ∧ OwnA w B1 (slV d.2.2.2.2) e.A ∧ p2 = some ⟨ga, 0, none⟩ ∧ w.cell? ⟨ga, m, none⟩ = some (pieceQ e s) ∧ OwnA w B2 s e.A := by
  obtain ⟨D, hD, hO⟩ := h1
  have hl1 := forall2_len hO
  have hl2 := forall2_len h3
  obtain ⟨p1, c1, e1⟩ := own_slice hD
  obtain ⟨p2, c2, e2⟩ := own_slice h2
  refine ⟨p1, c1, p2, c2, by rw [e1, hl1], by rw [e2, hl2], fun m hm => ?_⟩
  obtain ⟨ga, c, x, hv', hB, hx, hc⟩ := own_cell h2 m (by omega)
  obtain ⟨e, s, he, rfl, hs⟩ := oneI h3 hx
  rw [e2] at hv'
  simp only [Value.slice.injEq] at hv'
  have hd : D[m]? = some (D[m]'(by omega)) := List.getElem?_eq_getElem (by omega)
  obtain ⟨y, hy, r⟩ := forall2_get hO m _ hd
  obtain rfl : y = e := Option.some.inj (hy.symm.trans he)
  rcases hD.2 with ⟨_, h0⟩ | ⟨g, cap, cur, e3, _, _, _, _, _, _⟩
  · omega
  · rw [e1] at e3
    simp only [Value.slice.injEq] at e3
    have hD' := hD
    unfold OwnO at hD'
    rw [e1, e3.1] at hD'
    have hat := own_opAt hD' m _ hd
    exact ⟨y, D[m]'(by omega), g, ga, s, he, e3.1, hat, opV_of ⟨r.1, r.2.1, r.2.2.1, r.2.2.2.1, own_RN r.2.2.2.2⟩, r.1, r.2.2.2.2, hv'.1, hc, hs⟩
end Go.Proofs.YtalfdjglbbmjcabGreatDoor

/- The canonical list while it is made: sizes. -/
namespace Go.Proofs.YtalfdjglbbmjcabGreatDoor
open Go Go.RowKit Go.Lib
set_option linter.unusedVariables false

theorem base_jn {x o : Op5} (hk : x.k = o.k) : baseO (jnO x o) = baseO x + baseO o ∨ o.k = 1 ∨ o.k = 2 := by
  by_cases h : o.k = 3 ∨ o.k = 4
  · left
    rw [base_3 h, base_3 (o := x) (by omega), base_3 (o := jnO x o) (by show x.k = 3 ∨ x.k = 4; omega)]
    rfl
  · by_cases h1 : o.k = 1
    · exact Or.inr (Or.inl h1)
    · by_cases h2 : o.k = 2
      · exact Or.inr (Or.inr h2)
      · left
        have e : ∀ y : Op5, y.k = o.k → baseO y = 0 := fun y hy => by unfold baseO; rw [if_neg (by omega)]
        rw [e x hk, e o rfl, e (jnO x o) hk]; rfl
/-- Lists of operations put together bit by bit: sizes. -/
structure PQ (P : List Op5) (T : Nat) (S : Int) (L : Nat) : Prop where
  wel : ∀ x ∈ P, Wel x ∧ x.A.length ≤ 1048576
  txt : txtS P ≤ T
  sum : sumB P ≤ S
  len : P.length ≤ L
theorem PQ.push {P : List Op5} {T L : Nat} {S : Int} {o : Op5} (h : PQ P T S L) (ho : Wel o) (hA : o.A.length ≤ 1048576) : PQ (pushL P o) (T + o.t.size) (S + baseO o) (L + 1) := by
  obtain ⟨s1, s2⟩ := push_size P o
  have h1 := h.txt
  have h2 := h.len
  have h3 := h.sum
  refine ⟨?_, by omega, ?_, by omega⟩
  · rcases List.eq_nil_or_concat P with rfl | ⟨F, x, rfl⟩
    · rw [push_nil]; intro y hy; rw [List.mem_singleton.1 hy]; exact ⟨ho, hA⟩
    · rw [List.concat_eq_append] at h ⊢
      by_cases hj : x.k ≠ o.k ∨ o.k = 2 ∨ x.A ≠ o.A
      · rw [push_apart hj]
        intro y hy
        rcases List.mem_append.1 hy with hy | hy
        · exact h.wel y hy
        · rw [List.mem_singleton.1 hy]; exact ⟨ho, hA⟩
      · rw [push_join hj]
        have hx := h.wel x (List.mem_append_right _ (List.mem_singleton.2 rfl))
        have hk : x.k = o.k := Decidable.byContradiction fun e => hj (Or.inl e)
        have h2' : o.k ≠ 2 := fun e => hj (Or.inr (Or.inl e))
        have hA' : x.A = o.A := Decidable.byContradiction fun e => hj (Or.inr (Or.inr e))
        intro y hy
        rcases List.mem_append.1 hy with hy | hy
        · exact h.wel y (List.mem_append_left _ hy)
        · rw [List.mem_singleton.1 hy]
          exact ⟨(join_wel hx.1 ho hk h2' hA').1, hx.2⟩
  · rcases List.eq_nil_or_concat P with rfl | ⟨F, x, rfl⟩
    · rw [push_nil, sumB_one]; have : sumB ([] : List Op5) = 0 := rfl; omega
    · rw [List.concat_eq_append] at h3 ⊢
      by_cases hj : x.k ≠ o.k ∨ o.k = 2 ∨ x.A ≠ o.A
      · rw [push_apart hj, sumB_append, sumB_one]; omega
      · rw [push_join hj, sumB_append, sumB_one]
        rw [sumB_append, sumB_one] at h3
        have hk : x.k = o.k := Decidable.byContradiction fun e => hj (Or.inl e)
        rcases base_jn hk with e | e | e
        · rw [e]; omega
        · rw [base_1 (o := jnO x o) (by show x.k = 1 ∨ x.k = 2; omega), base_1 (o := o) (Or.inl e)]
          rw [base_1 (o := x) (by omega)] at h3
          omega
        · exact absurd (Or.inr (Or.inl e)) hj
theorem PQ.up {P : List Op5} {T T' L L' : Nat} {S S' : Int} (h : PQ P T S L) (h1 : T ≤ T') (h2 : S ≤ S') (h3 : L ≤ L') : PQ P T' S' L' := ⟨h.wel, Nat.le_trans h.txt h1, Int.le_trans h.sum h2, Nat.le_trans h.len h3⟩
theorem PQ.fold : ∀ (G : List Op5) {P : List Op5} {T L : Nat} {S : Int}, PQ P T S L → (∀ o ∈ G, (Wel o ∧ o.A.length ≤ 1048576) ∧ (o.k = 1 ∨ o.k = 2)) → PQ (G.foldl pushL P) (T + txtS G) S (L + G.length)
  | [], P, T, L, S, h, _ => h
  | o :: r, P, T, L, S, h, hG => by
    obtain ⟨⟨h1, h2⟩, h3⟩ := hG o (List.mem_cons_self ..)
    have hp := h.push h1 h2
    rw [base_1 h3, Int.add_zero] at hp
    have := PQ.fold r hp (fun x hx => hG x (List.mem_cons_of_mem _ hx))
    have e : txtS (o :: r) = o.t.size + txtS r := by simp [txtS]
    rw [e, List.length_cons]
    exact this.up (by omega) (Int.le_refl _) (by omega)
/-- The document's state behind some operations: sizes. -/
structure RunQ (F : List Op5) (s : List Op5 × List Op5 × Int) : Prop where
  out : ∃ T S L, PQ s.1 T S L ∧ T + txtS s.2.1 ≤ txtS F ∧ S + s.2.2 ≤ sumB F ∧ L + s.2.1.length + (if 0 < s.2.2 then 1 else 0) ≤ F.length
  gap : ∀ o ∈ s.2.1, (Wel o ∧ o.A.length ≤ 1048576) ∧ (o.k = 1 ∨ o.k = 2)
  nn : 0 ≤ s.2.2
theorem RunQ.nil : RunQ [] ([], [], 0) := ⟨⟨0, 0, 0, ⟨fun x h => (by cases h), by simp [txtS], by simp [sumB], by simp⟩, by simp [txtS], by simp [sumB], by simp⟩, fun o h => (by cases h), Int.le_refl 0⟩
theorem flush_q {F : List Op5} {s : List Op5 × List Op5 × Int} (h : RunQ F s) : PQ (flushL s.1 s.2.1 s.2.2) (txtS F) (sumB F) F.length := by
  obtain ⟨⟨T, S, L, h1, h2, h3, h4⟩, h5, h6⟩ := h
  have hf := PQ.fold s.2.1 h1 h5
  unfold flushL
  split
  · rename_i h0
    rw [if_pos h0] at h4
    have := hf.push (delO_wel (n := s.2.2) (by omega)) (by show (0 : Nat) ≤ _; omega)
    rw [base_3 (o := delO s.2.2) (Or.inr rfl)] at this
    exact this.up (by show T + txtS s.2.1 + 0 ≤ _; omega) (by show S + s.2.2 ≤ _; omega) (by omega)
  · exact hf.up (by omega) (by omega) (by omega)
theorem RunQ.step {F : List Op5} {s : List Op5 × List Op5 × Int} {o : Op5} (h : RunQ F s) (ho : Wel o) (hA : o.A.length ≤ 1048576) : RunQ (F ++ [o]) (stepC s o) := by
  have e1 := txtS_append F [o]
  have e2 := sumB_append F [o]
  rw [txtS_one] at e1
  rw [sumB_one] at e2
  have e3 : (F ++ [o]).length = F.length + 1 := by simp
  have hq := flush_q h
  have hn := h.nn
  unfold stepC
  rcases ho.kinds with hk | hk | hk | hk
  · rw [if_pos (Or.inl hk)]
    rw [base_1 (Or.inl hk)] at e2
    obtain ⟨T, S, L, h1, h2, h3, h4⟩ := h.out
    refine ⟨⟨T, S, L, h1, ?_, by show S + s.2.2 ≤ _; omega, ?_⟩, fun x hx => ?_, hn⟩
    · show T + txtS (s.2.1 ++ [o]) ≤ _; rw [txtS_append, txtS_one]; omega
    · show L + (s.2.1 ++ [o]).length + _ ≤ _; rw [List.length_append]; simp only [List.length_singleton]; omega
    · rcases List.mem_append.1 hx with hx | hx
      · exact h.gap x hx
      · rw [List.mem_singleton.1 hx]; exact ⟨⟨ho, hA⟩, Or.inl hk⟩
  · rw [if_pos (Or.inr hk)]
    rw [base_1 (Or.inr hk)] at e2
    obtain ⟨T, S, L, h1, h2, h3, h4⟩ := h.out
    refine ⟨⟨T, S, L, h1, ?_, by show S + s.2.2 ≤ _; omega, ?_⟩, fun x hx => ?_, hn⟩
    · show T + txtS (s.2.1 ++ [o]) ≤ _; rw [txtS_append, txtS_one]; omega
    · show L + (s.2.1 ++ [o]).length + _ ≤ _; rw [List.length_append]; simp only [List.length_singleton]; omega
    · rcases List.mem_append.1 hx with hx | hx
      · exact h.gap x hx
      · rw [List.mem_singleton.1 hx]; exact ⟨⟨ho, hA⟩, Or.inr hk⟩
  · rw [if_neg (by omega), if_neg (by omega)]
    have hp := hq.push ho hA
    exact ⟨⟨_, _, _, hp, by show txtS F + o.t.size + txtS [] ≤ _; rw [show txtS [] = 0 from rfl]; omega, by show sumB F + baseO o + 0 ≤ _; omega, by show F.length + 1 + 0 + (if (0 : Int) < 0 then 1 else 0) ≤ _; simp⟩, fun x hx => (by cases hx), Int.le_refl 0⟩
  · rw [if_neg (by omega), if_pos hk]
    rw [base_3 (Or.inr hk)] at e2
    have hc := ho.count (Or.inr hk)
    obtain ⟨T, S, L, h1, h2, h3, h4⟩ := h.out
    refine ⟨⟨T, S, L, h1, by show T + txtS s.2.1 ≤ _; omega, by show S + (s.2.2 + o.c) ≤ _; omega, ?_⟩, h.gap, by show 0 ≤ s.2.2 + o.c; omega⟩
    show L + s.2.1.length + (if 0 < s.2.2 + o.c then 1 else 0) ≤ _
    rw [if_pos (by omega)]; omega
theorem runC_snoc (F : List Op5) (o : Op5) : runC (F ++ [o]) = stepC (runC F) o := by unfold runC; rw [List.foldl_append]; rfl
theorem runQ_take {E : List Op5} (h : OkE E) : ∀ k, k ≤ E.length → RunQ (E.take k) (runC (E.take k)) := fun k => by
  induction k with
  | zero => intro _; rw [List.take_zero]; exact RunQ.nil
  | succ k ih =>
    intro hk
    have he : E[k]? = some E[k] := List.getElem?_eq_getElem (by omega)
    have hm : E[k] ∈ E := List.getElem_mem _
    rw [List.take_add_one, he, Option.toList_some, runC_snoc]
    exact (ih (by omega)).step (h.wel _ hm) (h.fit _ hm).n
/-- What push asks of the operations ahead. -/
theorem PQ.ask {P : List Op5} {T L : Nat} {S : Int} (h : PQ P T S L) (hT : T ≤ 8388608) (hS : S ≤ 2199023255552) : ∀ x ∈ P, Wel x ∧ x.A.length ≤ 2097152 ∧ x.t.size ≤ 8388608 ∧ x.c ≤ 2199023255552 := fun x hx => by
  obtain ⟨h1, h2⟩ := h.wel x hx
  have h3 := txtS_mem hx
  have h4 := h.txt
  have h5 := h.sum
  have h6 := cnt_le (fun y hy => (h.wel y hy).1) hx
  exact ⟨h1, by omega, by omega, by omega⟩
end Go.Proofs.YtalfdjglbbmjcabGreatDoor

/- The document's deltas: Canonical. -/
namespace Go.Proofs.YtalfdjglbbmjcabGreatDoor
open Go Go.RowKit Go.Lib
set_option linter.unusedVariables false

/-- Two rows of the call's own, apart. -/
structure CanS (w0 wc W : World) (vo vg : Value) (PO PG : List Op5) : Prop where
  out : ∃ D, OwnO W wc.heap.size vo D ∧ ReD w0 D PO
  gap : ∃ D, OwnO W wc.heap.size vg D ∧ ReD w0 D PG
  apart : ∀ k, vo.ownBlock = some k → vg.ownBlock ≠ some k
  below : Below wc.heap.size wc W
  base : Below w0.heap.size w0 wc
theorem CanS.keep {w0 wc W W' : World} {vo vg : Value} {PO PG : List Op5} (h : CanS w0 wc W vo vg PO PG) (b : Below W.heap.size W W') : CanS w0 wc W' vo vg PO PG := by
  obtain ⟨D, a1, a2⟩ := h.out
  obtain ⟨G, b1, b2⟩ := h.gap
  exact ⟨⟨D, owns_below a1 b, a2⟩, ⟨G, owns_below b1 b, b2⟩, h.apart, h.below.trans (b.mono h.below.size), h.base⟩
theorem CanS.pushed {w0 wc W W' : World} {vo vg : Value} {PO PG P : List Op5} {e : Ending} (h : CanS w0 wc W vo vg PO PG) (r : PushR w0 wc.heap.size W W' vo e P) : ∃ v', e = .returned v' ∧ CanS w0 wc W' v' vg P PG := by
  obtain ⟨v', D', rfl, h1, h2, h3, h4⟩ := r
  obtain ⟨D, a1, a2⟩ := h.out
  obtain ⟨G, b1, b2⟩ := h.gap
  have hlt : ∀ k, vg.ownBlock = some k → k < W.heap.size := fun k hk => by
    obtain ⟨_, cur, hc⟩ := owns_block b1 k hk
    exact (Array.getElem?_eq_some_iff.1 hc).1
  refine ⟨v', rfl, ⟨D', h1, h2⟩, ⟨G, owns_same b1 fun k hk => h3.block k (hlt k hk) (fun e => h.apart k e hk), b2⟩, fun k hk hg => ?_, ?_, h.base⟩
  · rcases h4 with h4 | ⟨j, h4, h5⟩
    · exact h.apart k (h4 ▸ hk) hg
    · rw [h4] at hk
      obtain rfl : j = k := Option.some.inj hk
      have := hlt j hg
      omega
  · have := h3.below (B := wc.heap.size) h.below.size (fun k hk => (owns_block a1 k hk).1)
    exact h.below.trans this
theorem CanS.gapped {w0 wc W w8 : World} {vo vg v8 : Value} {PO PG : List Op5} {e : Op5} {sp : Option Addr} {sl sc : Nat} (h : CanS w0 wc W vo vg PO PG) {D : List OV} (hD : ReD w0 D PG) (hr : RN w0 (.slice sp sl sc) e.A) (h1 : OwnO w8 wc.heap.size v8 (D ++ [(e.k, e.t, e.v, e.c, (sp, sl, sc))])) (gr : W.grownBy w8 vg.ownBlock) (hat : v8.ownBlock = vg.ownBlock ∨ v8.ownBlock = some W.heap.size) : CanS w0 wc w8 vo v8 PO (PG ++ [e]) := by
  obtain ⟨DO, a1, a2⟩ := h.out
  obtain ⟨G, b1, b2⟩ := h.gap
  have hlt : ∀ k, vo.ownBlock = some k → k < W.heap.size := fun k hk => by
    obtain ⟨_, cur, hc⟩ := owns_block a1 k hk
    exact (Array.getElem?_eq_some_iff.1 hc).1
  refine ⟨⟨DO, owns_same a1 fun k hk => gr.block k (hlt k hk) (fun e => h.apart k hk e.symm), a2⟩, ⟨_, h1, forall2_append hD (.cons ⟨rfl, rfl, rfl, rfl, hr⟩ .nil)⟩, fun k hk hg => ?_, ?_, h.base⟩
  · rcases hat with e | e
    · exact h.apart k hk (e ▸ hg)
    · rw [e] at hg
      obtain rfl : W.heap.size = k := Option.some.inj hg
      have := hlt _ hk
      omega
  · exact h.below.grown gr h.below.size (fun k hk => (owns_block b1 k hk).1)
theorem CanS.cleared {w0 wc W : World} {vo vg : Value} {PO PG : List Op5} (h : CanS w0 wc W vo vg PO PG) : CanS w0 wc W vo (.slice none 0 0) PO [] :=
  ⟨h.out, ⟨[], ⟨rfl, Or.inl ⟨rfl, rfl⟩⟩, .nil⟩, fun k _ h => (by cases h), h.below, h.base⟩
theorem CanS.len {w0 wc W : World} {vo vg : Value} {PO PG : List Op5} (h : CanS w0 wc W vo vg PO PG) : ∃ p c, vg = .slice p PG.length c := by
  obtain ⟨G, b1, b2⟩ := h.gap
  obtain ⟨p, c, e⟩ := own_slice b1
  exact ⟨p, c, by rw [e, forall2_len b2]⟩
theorem CanS.read {w0 wc W : World} {vo : Value} {PO PG : List Op5} {p : Option Addr} {l c : Nat} (h : CanS w0 wc W vo (.slice p l c) PO PG) (j : Nat) (hj : j < PG.length) : ∃ (e : Op5) (b : Nat) (sp : Option Addr) (sl sc : Nat), PG[j]? = some e ∧ p = some ⟨b, 0, none⟩ ∧ OpAt W b (0 + j * 7) (e.k, e.t, e.v, e.c, (sp, sl, sc)) ∧ RN w0 (.slice sp sl sc) e.A := by
  obtain ⟨G, b1, b2⟩ := h.gap
  have hl := forall2_len b2
  obtain ⟨d, hd⟩ : ∃ d, G[j]? = some d := ⟨_, List.getElem?_eq_getElem (by omega)⟩
  obtain ⟨e, he, h1, h2, h3, h4, h5⟩ := forall2_get b2 j d hd
  obtain ⟨dk, dt, dv, dc, sp, sl, sc⟩ := d
  simp only at h1 h2 h3 h4
  subst h1; subst h2; subst h3; subst h4
  obtain ⟨q, cc, hv⟩ := own_slice b1
  rcases b1.2 with ⟨_, h0⟩ | ⟨g, cap, cur, e1, _⟩
  · omega
  · cases e1
    exact ⟨e, g, sp, sl, sc, he, rfl, own_opAt b1 j _ hd, h5⟩
/-- push on the rows. -/
theorem push_can {w0 wc W : World} {vo vg : Value} {PO PG : List Op5} {T L : Nat} {S : Int} (o : Op5) (sp : Option Addr) (sl sc : Nat) (h : CanS w0 wc W vo vg PO PG) (ho : RN w0 (.slice sp sl sc) o.A) (q : PQ PO T S L) (hT : T ≤ 8388608) (hS : S ≤ 2199023255552) (hL : L ≤ 4194304) (how : Wel o) (hn2 : o.A.length ≤ 1048576) (hot : o.t.size ≤ 8388608) (hoc : o.c ≤ 2199023255552) :
    Calls Tryz.prog 91 #[vo, opV o (.slice sp sl sc)] W fun e w' => ∃ v', e = .returned v' ∧ CanS w0 wc w' v' vg (pushL PO o) PG := by
  obtain ⟨D, a1, a2⟩ := h.out
  have hl := q.len
  exact (push6_any vo D PO o sp sl sc W h.below.size (h.base.trans (h.below.mono h.base.size)) a1 a2 ho (by omega) (q.ask hT hS) how (by omega) hot hoc).mono fun e w' r => h.pushed r
/-- The sizes while a gap is put behind. -/
theorem RunQ.fold {F : List Op5} {s : List Op5 × List Op5 × Int} (h : RunQ F s) (j : Nat) : PQ ((s.2.1.take j).foldl pushL s.1) (txtS F) (sumB F) F.length := by
  obtain ⟨⟨T, S, L, h1, h2, h3, h4⟩, h5, h6⟩ := h
  have hf := PQ.fold (s.2.1.take j) h1 (fun o ho => h5 o (List.mem_of_mem_take ho))
  have e1 := txtS_take s.2.1 j
  have e2 : (s.2.1.take j).length ≤ s.2.1.length := by rw [List.length_take]; omega
  exact hf.up (by omega) (by omega) (by split at h4 <;> omega)
/-- The state ahead of the m-th round. -/
def stA (E : List Op5) (m : Nat) : List Op5 × List Op5 × Int := if m ≤ E.length then runC (E.take m) else (flushL (runC E).1 (runC E).2.1 (runC E).2.2, [], 0)
theorem stA_end (E : List Op5) : stA E (E.length + 1) = (flushL (runC E).1 (runC E).2.1 (runC E).2.2, [], 0) := by unfold stA; rw [if_neg (by omega)]
theorem stA_at {E : List Op5} {m : Nat} (h : m ≤ E.length) : stA E m = runC (E.take m) := by unfold stA; rw [if_pos h]
theorem stA_succ {E : List Op5} {m : Nat} {e : Op5} (h : E[m]? = some e) : stA E (m + 1) = stepC (stA E m) e := by
  have hm : m < E.length := (List.getElem?_eq_some_iff.1 h).1
  rw [stA_at (by omega), stA_at (by omega), List.take_add_one, h, Option.toList_some, runC_snoc]
theorem stA_ins {E : List Op5} {m : Nat} {e : Op5} (h : E[m]? = some e) (hk : e.k = 1 ∨ e.k = 2) : stA E (m + 1) = ((stA E m).1, (stA E m).2.1 ++ [e], (stA E m).2.2) := by rw [stA_succ h]; unfold stepC; rw [if_pos hk]
theorem stA_del {E : List Op5} {m : Nat} {e : Op5} (h : E[m]? = some e) (hk : e.k = 4) : stA E (m + 1) = ((stA E m).1, (stA E m).2.1, (stA E m).2.2 + e.c) := by rw [stA_succ h]; unfold stepC; rw [if_neg (by omega), if_pos hk]
theorem stA_ret {E : List Op5} {m : Nat} {e : Op5} (h : E[m]? = some e) (hk : e.k = 3) : stA E (m + 1) = (pushL (flushL (stA E m).1 (stA E m).2.1 (stA E m).2.2) e, [], 0) := by rw [stA_succ h]; unfold stepC; rw [if_neg (by omega), if_neg (by omega)]
theorem trim_nil : trimL [] = [] := rfl
theorem trim_yes {F : List Op5} {x : Op5} (h : plainR x = true) : trimL (F ++ [x]) = F := by unfold trimL; rw [List.getLast?_concat]; simp only; rw [if_pos h, List.dropLast_concat]
theorem trim_no {F : List Op5} {x : Op5} (h : plainR x = false) : trimL (F ++ [x]) = F ++ [x] := by unfold trimL; rw [List.getLast?_concat]; simp only; rw [if_neg (by simp [h])]
/-- The sizes of the state ahead of the m-th round. -/
theorem stA_q {E : List Op5} (h : OkE E) {m : Nat} (hm : m ≤ E.length) : (∀ j, PQ (((stA E m).2.1.take j).foldl pushL (stA E m).1) 8388608 1099511627776 4194304) ∧ PQ (flushL (stA E m).1 (stA E m).2.1 (stA E m).2.2) 8388608 1099511627776 4194304 ∧ (∀ o ∈ (stA E m).2.1, Wel o ∧ o.A.length ≤ 1048576 ∧ o.t.size ≤ 8388608 ∧ o.c ≤ 2199023255552) ∧ 0 ≤ (stA E m).2.2 ∧ (stA E m).2.2 ≤ 1099511627776 ∧ (stA E m).2.1.length ≤ 4194304 := by
  rw [stA_at hm]
  have q := runQ_take h m hm
  have t1 := txtS_take E m
  have t2 := h.txt
  have t3 := h.len
  have t4 : (E.take m).length ≤ E.length := by rw [List.length_take]; omega
  have t5 : sumB (E.take m) ≤ sumB E := by
    have := sumB_append (E.take m) (E.drop m)
    rw [List.take_append_drop] at this
    have := (sums_nn (E := E.drop m) (fun o ho => h.wel o (List.mem_of_mem_drop ho))).1
    omega
  have t6 := h.base
  obtain ⟨⟨T, S, L, h1, h2, h3, h4⟩, h5, h6⟩ := q
  have hS : 0 ≤ S := by
    have := (sums_nn (E := (runC (E.take m)).1) (fun o ho => (h1.wel o ho).1)).1
    have := h1.sum
    omega
  have q := runQ_take h m hm
  refine ⟨fun j => (q.fold j).up (by omega) (by omega) (by omega), (flush_q q).up (by omega) (by omega) (by omega), fun o ho => ?_, h6, by omega, by split at h4 <;> omega⟩
  obtain ⟨⟨a1, a2⟩, a3⟩ := h5 o ho
  have := txtS_mem ho
  refine ⟨a1, a2, by omega, ?_⟩
  rcases a1 with ⟨hi, _⟩ | ⟨b, _⟩ | ⟨b, _⟩
  · rw [hi.count]; omega
  · omega
  · omega
/-- A row of operations in a block from a mark on. -/
def FarO (w : World) (B : Nat) (v : Value) (D : List OV) : Prop :=
  ∃ p cap, v = .slice p D.length cap ∧ D.length ≤ cap ∧ (p = none → cap = 0) ∧ ∀ (j : Nat) (d : OV), D[j]? = some d → ∃ b off, p = some ⟨b, off, none⟩ ∧ B ≤ b ∧ OpAt w b (off + j * 7) d
theorem FarO.row {w : World} {B : Nat} {v : Value} {D : List OV} (h : FarO w B v D) : RowO w v D := by
  obtain ⟨p, cap, h1, h2, h3, h4⟩ := h
  exact ⟨p, cap, h1, h2, h3, fun j d hd => by obtain ⟨b, off, a1, _, a2⟩ := h4 j d hd; exact ⟨b, off, a1, a2⟩⟩
theorem FarO.below {w w' : World} {B : Nat} {v : Value} {D : List OV} (h : FarO w B v D) (hb : Below w.heap.size w w') : FarO w' B v D := by
  obtain ⟨p, cap, h1, h2, h3, h4⟩ := h
  exact ⟨p, cap, h1, h2, h3, fun j d hd => by obtain ⟨b, off, a1, a0, a2⟩ := h4 j d hd; exact ⟨b, off, a1, a0, a2.below hb⟩⟩
theorem FarO.weaken {w : World} {B C : Nat} {v : Value} {D : List OV} (h : FarO w B v D) (hc : C ≤ B) : FarO w C v D := by
  obtain ⟨p, cap, h1, h2, h3, h4⟩ := h
  exact ⟨p, cap, h1, h2, h3, fun j d hd => by obtain ⟨b, off, a1, a0, a2⟩ := h4 j d hd; exact ⟨b, off, a1, Nat.le_trans hc a0, a2⟩⟩
theorem far_own {w : World} {B : Nat} {v : Value} {D F : List OV} {n cap : Nat} {p : Option Addr} (h : OwnO w B v D) (hv : v = .slice p n cap) (hF : ∀ (j : Nat) (d : OV), F[j]? = some d → D[j]? = some d) (hl : F.length ≤ D.length) : FarO w B (.slice p F.length cap) F := by
  rcases h.2 with ⟨e1, h0⟩ | ⟨g, c, cur, e1, h2, h3, h4, h5⟩
  · rw [hv] at e1
    simp only [Value.slice.injEq] at e1
    obtain ⟨rfl, _, rfl⟩ := e1
    obtain rfl : F = [] := List.eq_nil_of_length_eq_zero (by omega)
    exact ⟨none, 0, rfl, Nat.le_refl _, fun _ => rfl, fun j d hd => (by simp at hd)⟩
  · rw [hv] at e1
    simp only [Value.slice.injEq] at e1
    obtain ⟨rfl, rfl, rfl⟩ := e1
    rw [hv] at h
    exact ⟨_, cap, rfl, by omega, fun h => (by cases h), fun j d hd => ⟨g, 0, rfl, h2, own_opAt h j d (hF j d hd)⟩⟩
set_option maxHeartbeats 40000000 in
set_option maxRecDepth 100000 in
theorem canon6_any {w0 : World} (va : Value) (D0 : List OV) (E : List Op5) (w : World) (hb0 : Below w0.heap.size w0 w) (hrow : RowO w va D0) (hre : ReD w0 D0 E) (ok : OkE E) :
    Calls Tryz.prog 71 #[va] w fun r w' => ∃ v', r = .returned v' ∧ (∃ D', FarO w' w.heap.size v' D' ∧ ReD w0 D' (canonL E)) ∧ Below w.heap.size w w' := by
  have hDE := forall2_len hre
  obtain ⟨n, hn⟩ : ∃ n, E.length = n := ⟨_, rfl⟩
  obtain ⟨p, cap, rfl, hcap, hnz, hc⟩ := hrow
  have HR : Hid (∀ k, k < n → ∃ (e : Op5) (b off : Nat) (sp : Option Addr) (sl sc : Nat), E[k]? = some e ∧ p = some ⟨b, off, none⟩ ∧ OpAt w b (off + k * 7) (e.k, e.t, e.v, e.c, (sp, sl, sc)) ∧ RN w0 (.slice sp sl sc) e.A) := fun k hk => by
    obtain ⟨d, hd⟩ : ∃ d, D0[k]? = some d := ⟨_, List.getElem?_eq_getElem (by omega)⟩
    obtain ⟨e, he, h1, h2, h3, h4, h5⟩ := forall2_get hre k d hd
    obtain ⟨b, off, hp, hat⟩ := hc k d hd
    obtain ⟨dk, dt, dv, dc, sp, sl, sc⟩ := d
    simp only at h1 h2 h3 h4
    subst h1; subst h2; subst h3; subst h4
    exact ⟨e, b, off, sp, sl, sc, he, hp, hat, h5⟩
  have HN : Hid (E.length = n ∧ OkE E) := ⟨hn, ok⟩
  have hnl : n ≤ 4194304 := by have := ok.len; omega
  rw [hDE, hn] at hcap ⊢
  clear hc hDE hre hnz ok hn
  have hcs : CanS w0 w ((w.alloc (.cells #[] 69)).alloc (.cells #[] 69)) (.slice (some ⟨w.heap.size, 0, none⟩) 0 0) (.slice (some ⟨w.heap.size + 1, 0, none⟩) 0 0) [] [] := by
    have o1 := own_emptyO w w.heap.size (Nat.le_refl _)
    have b1 := (Below.refl w.heap.size w).alloc (Nat.le_refl _) (.cells #[] 69)
    have s1 : (w.alloc (.cells #[] 69)).heap.size = w.heap.size + 1 := by simp
    have o2 := own_emptyO (w.alloc (.cells #[] 69)) w.heap.size (by omega)
    rw [s1] at o2
    refine ⟨⟨[], owns_below o1 ((Below.refl _ _).alloc (Nat.le_refl _) _), .nil⟩, ⟨[], o2, .nil⟩, fun k h1 h2 => ?_, b1.alloc b1.size _, hb0⟩
    have e1 : w.heap.size = k := Option.some.inj h1
    have e2 : w.heap.size + 1 = k := Option.some.inj h2
    omega
  have HS0 : Hid (CanS w0 w ((w.alloc (.cells #[] 69)).alloc (.cells #[] 69)) (.slice (some ⟨w.heap.size, 0, none⟩) 0 0) (.slice (some ⟨w.heap.size + 1, 0, none⟩) 0 0) (stA E 0).1 (stA E 0).2.1) := by
    rw [stA_at (Nat.zero_le _), List.take_zero]; exact hcs
  have hz0 : (0 : Int) = (stA E 0).2.2 := by rw [stA_at (Nat.zero_le _), List.take_zero]; rfl
  clear hcs
  go_enter Tryz.func71, Tryz.ntmps71
  go_wp2
  obtain ⟨W0, hW0⟩ : ∃ W, W = (w.alloc (.cells #[] 69)).alloc (.cells #[] 69) := ⟨_, rfl⟩
  obtain ⟨vo0, hvo0⟩ : ∃ v : Value, v = .slice (some ⟨w.heap.size, 0, none⟩) 0 0 := ⟨_, rfl⟩
  obtain ⟨vg0, hvg0⟩ : ∃ v : Value, v = .slice (some ⟨w.heap.size + 1, 0, none⟩) 0 0 := ⟨_, rfl⟩
  rw [← hW0, ← hvo0, ← hvg0] at HS0
  try rw [← hW0]
  try rw [← hvo0]
  try rw [← hvg0]
  clear hW0 hvo0 hvg0
  go_loopw [3, 4, 5, 6] (fun vo vg g i wr => ∃ (m : Nat), m ≤ n + 1 ∧ i = .int .i64 m ∧ g = .int .i64 (stA E m).2.2 ∧ Hid (CanS w0 w wr vo vg (stA E m).1 (stA E m).2.1)) (fun _ _ _ i _ => n + 1 - (RowKit.intOf i).toNat)
  case atStart => exact ⟨0, Nat.zero_le _, rfl, by rw [← hz0], HS0⟩
  case round =>
    clear HS0 hz0
    obtain ⟨m, hm, rfl, rfl, HS⟩ := hrel
    by_cases hlt : m < n
    · have hltI : (m : Int) < n := by omega
      have hleI : (m : Int) ≤ n := by omega
      have hge0 : (0 : Int) ≤ (m : Int) := by omega
      obtain ⟨e, b, off, sp, sl, sc, he, rfl, hat, hrn⟩ := HR.out m hlt
      obtain ⟨c0, c1, c2, c3, c4, c5, c6⟩ := hat.below HS.out.below
      have how := HN.out.2.wel e (List.mem_of_getElem? he)
      have hA := (HN.out.2.fit e (List.mem_of_getElem? he)).n
      have ht : e.t.size ≤ 8388608 := by have := txtS_mem (List.mem_of_getElem? he); have := HN.out.2.txt; omega
      have hq := stA_q HN.out.2 (m := m) (by have := HN.out.1; omega)
      have hec : e.c ≤ 2199023255552 := by
        have := HN.out.2.base
        rcases cnt_le HN.out.2.wel (List.mem_of_getElem? he) with h1 | h1 <;> omega
      have HF : Hid (RN w0 (.slice sp sl sc) e.A ∧ Wel e ∧ e.A.length ≤ 1048576 ∧ e.t.size ≤ 8388608 ∧ e.c ≤ 2199023255552) := ⟨hrn, how, hA, ht, hec⟩
      have HQ := Hid.mk' hq
      have cI := ins6_any e sp sl sc wr
      rcases (show (e.k = 1 ∨ e.k = 2) ∨ e.k = 3 ∨ e.k = 4 by rcases how.kinds with h | h | h | h <;> omega) with hk | hk | hk
      · have HNX := Hid.mk' (stA_ins he hk)
        have cI0 : decide (e.k = 1 ∨ e.k = 2) = true := decide_eq_true (by omega)
        rw [cI0] at cI
        have HG : Hid (∀ W, Below wr.heap.size wr W → ∃ D, D.length ≤ 33554432 ∧ OpAt (W.alloc (.cells (opC e (.slice sp sl sc)) 69)) W.heap.size 0 (e.k, e.t, e.v, e.c, (sp, sl, sc)) ∧ OwnO (W.alloc (.cells (opC e (.slice sp sl sc)) 69)) w.heap.size u4 D ∧ w.heap.size ≤ (W.alloc (.cells (opC e (.slice sp sl sc)) 69)).heap.size ∧ ∀ v8 w8, OwnO w8 w.heap.size v8 (D ++ [(e.k, e.t, e.v, e.c, (sp, sl, sc))]) → (W.alloc (.cells (opC e (.slice sp sl sc)) 69)).grownBy w8 u4.ownBlock → (v8.ownBlock = u4.ownBlock ∨ v8.ownBlock = some (W.alloc (.cells (opC e (.slice sp sl sc)) 69)).heap.size) → CanS w0 w w8 u3 v8 (stA E (m + 1)).1 (stA E (m + 1)).2.1) := fun W hW => by
          have h := HS.out.keep hW
          have hk := h.keep ((Below.refl W.heap.size W).alloc (Nat.le_refl _) (.cells (opC e (.slice sp sl sc)) 69))
          obtain ⟨D, d1, d2⟩ := hk.gap
          have hl := forall2_len d2
          have := hq.2.2.2.2.2
          refine ⟨D, by omega, ⟨by simp [opC], by simp [opC], by simp [opC], by simp [opC], by simp [opC], by simp [opC], by simp [opC]⟩, d1, hk.below.size, fun v8 w8 a1 a2 a3 => ?_⟩
          rw [HNX.out]; exact hk.gapped d2 hrn a1 a2 a3
        have H2 : Hid ((stA E (m + 1)).2.2 = (stA E m).2.2) := by show _ = _; rw [HNX.out]
        obtain ⟨g, hg⟩ : ∃ x, (stA E m).2.2 = x := ⟨_, rfl⟩
        rw [hg] at H2 ⊢
        clear cI0 HQ hq hrn how hA ht hec hat he HF HNX HS hg
        obtain ⟨k, t, ⟨xx, nn, u⟩, cc, A⟩ := e
        simp only [slV] at c0 c1 c2 c3 c4 c5 c6 cI
        go_wp2_with fail
        refine cI.mono ?_; rintro r w1 ⟨rfl, hb1⟩
        have d0 := (hb1.cell (lt_of_cell c0)).trans c0
        have d1 := (hb1.cell (lt_of_cell c1)).trans c1
        have d2 := (hb1.cell (lt_of_cell c2)).trans c2
        have d3 := (hb1.cell (lt_of_cell c3)).trans c3
        have d4 := (hb1.cell (lt_of_cell c4)).trans c4
        have d5 := (hb1.cell (lt_of_cell c5)).trans c5
        have d6 := (hb1.cell (lt_of_cell c6)).trans c6
        obtain ⟨D, hD1, hD2, hD3, hD4, hD5⟩ := HG.out w1 hb1
        have HD5 := Hid.mk' hD5
        clear cI HG hD5 c0 c1 c2 c3 c4 c5 c6 hb1
        go_wp2_with (at_builtin; refine wpList_append_ops rfl (.tmp 28) (.tmp 33) rfl w.heap.size u4 D rfl hD3 _ 1 _ rfl hD2 hD1 hD4 ?_; intro v8 w8 own8 gr8 hat8; have HS2 := Hid.mk' (HD5.out v8 w8 own8 gr8 hat8); clear own8 gr8 hat8 HD5 hD1 hD2 hD3 hD4 d0 d1 d2 d3 d4 d5 d6)
        go_roundw
        case rel => exact ⟨m + 1, by omega, by go_num, by rw [H2.out], HS2⟩
        case measure => simp [RowKit.intOf]; omega
      · have HNX := Hid.mk' (stA_ret he hk)
        have cI0 : decide (e.k = 1 ∨ e.k = 2) = false := decide_eq_false (by omega)
        rw [cI0] at cI
        have HBE : Hid (∀ W, Below w.heap.size w W → OpAt W b (off + m * 7) (e.k, e.t, e.v, e.c, (sp, sl, sc))) := fun W hW => hat.below hW
        clear cI0 hq hrn how hA ht hec hat he
        obtain ⟨PO, hPO⟩ : ∃ x, (stA E m).1 = x := ⟨_, rfl⟩
        obtain ⟨PG, hPG⟩ : ∃ x, (stA E m).2.1 = x := ⟨_, rfl⟩
        obtain ⟨g, hg⟩ : ∃ x, (stA E m).2.2 = x := ⟨_, rfl⟩
        rw [hPO, hPG, hg] at HNX HQ
        rw [hPO, hPG] at HS
        rw [hg]
        clear hPO hPG hg
        have hg2 := HQ.out.2.2.2.2.1
        have hg1 := HQ.out.2.2.2.1
        obtain ⟨k, t, ⟨xx, nn, u⟩, cc, A⟩ := e
        simp only [slV] at hk c0 c1 c2 c3 c4 c5 c6 cI HBE
        subst hk
        go_wp2_with fail
        refine cI.mono ?_; rintro r w1 ⟨rfl, hb1⟩
        have c0' := (hb1.cell (lt_of_cell c0)).trans c0
        obtain ⟨pg, cg, rfl⟩ := HS.out.len
        have H1 : Hid (CanS w0 w w1 u3 (.slice pg PG.length cg) PO PG) := HS.out.keep hb1
        obtain ⟨lg, hlg⟩ : ∃ x, PG.length = x := ⟨_, rfl⟩
        have HLG : Hid (PG.length = lg) := hlg
        have hlg4 : lg ≤ 4194304 := by have := HQ.out.2.2.2.2.2; omega
        rw [hlg] at H1 ⊢
        clear hlg cI HS c0 c1 c2 c3 c4 c5 c6 hb1
        go_wp2
        go_loopw [3, 56] (fun vo i wr2 => ∃ (j : Nat), j ≤ lg ∧ i = .int .i64 j ∧ Hid (CanS w0 w wr2 vo (.slice pg lg cg) ((PG.take j).foldl pushL PO) PG)) (fun _ i _ => lg - (RowKit.intOf i).toNat)
        case atStart => exact ⟨0, Nat.zero_le _, rfl, by rw [List.take_zero]; exact H1⟩
        case round =>
          clear H1
          obtain ⟨j, hj, rfl, H1⟩ := hrel
          by_cases hjl : j < lg
          · have hjI : (j : Int) < lg := by omega
            have hj0 : (0 : Int) ≤ (j : Int) := by omega
            obtain ⟨e', gg, sp', sl', sc', he', rfl, hat', hrn'⟩ := H1.out.read j (by rw [HLG.out]; exact hjl)
            obtain ⟨d0, d1, d2, d3, d4, d5, d6⟩ := hat'
            rw [Nat.zero_add] at d0 d1 d2 d3 d4 d5 d6
            have HB := H1.out.keep ((Below.refl wr.heap.size wr).alloc (Nat.le_refl _) (.cells (opC e' (.slice sp' sl' sc')) 69))
            obtain ⟨a1, a2, a3, a4⟩ := HQ.out.2.2.1 e' (List.mem_of_getElem? he')
            have cP := push_can e' sp' sl' sc' HB hrn' (HQ.out.1 j) (Nat.le_refl _) (by decide) (Nat.le_refl _) a1 a2 a3 a4
            have hP2 : pushL ((PG.take j).foldl pushL PO) e' = (PG.take (j + 1)).foldl pushL PO := by rw [List.take_add_one, he', List.foldl_append]; rfl
            rw [hP2] at cP
            clear HB a1 a2 a3 a4 H1 hrn' he' hP2
            obtain ⟨k', t', ⟨x', n', u'⟩, c', A'⟩ := e'
            simp only [opC, slV] at d0 d1 d2 d3 d4 d5 d6 cP
            go_wp2_with fail
            refine cP.mono ?_; rintro r w5 ⟨v5, rfl, h5⟩
            have H5 := Hid.mk' h5
            clear cP d0 d1 d2 d3 d4 d5 d6 h5
            go_wp2
            go_roundw
            case rel => exact ⟨j + 1, by omega, by go_num, H5⟩
            case measure => simp [RowKit.intOf]; omega
          · obtain rfl : j = lg := by omega
            have hjI : ¬ (j : Int) < j := by omega
            have hq1 := HQ.out.1 j
            rw [show PG.take j = PG by have := HLG.out; rw [← this, List.take_length]] at H1 hq1
            by_cases hgp : 0 < g
            · have cP := push_can (delO g) none 0 0 H1.out (RN.nil w0) hq1 (Nat.le_refl _) (by decide) (Nat.le_refl _) (delO_wel (by omega)) (by show (0 : Nat) ≤ _; omega) (by show (0 : Nat) ≤ _; omega) (by show g ≤ _; omega)
              have hfl : pushL (PG.foldl pushL PO) (delO g) = flushL PO PG g := by unfold flushL; rw [if_pos hgp]
              rw [hfl] at cP
              simp only [delO] at cP
              clear hq1 H1 hfl
              go_wp2_with fail
              refine cP.mono ?_; rintro r w5 ⟨v5, rfl, h5⟩
              have H5 := Hid.mk' h5.cleared
              clear cP h5
              obtain ⟨d0, d1, d2, d3, d4, d5, d6⟩ := HBE.out w5 H5.out.below
              have cP := push_can ⟨3, t, (xx, nn, u), cc, A⟩ sp sl sc H5.out HF.out.1 HQ.out.2.1 (Nat.le_refl _) (by decide) (Nat.le_refl _) HF.out.2.1 HF.out.2.2.1 HF.out.2.2.2.1 HF.out.2.2.2.2
              have H2 : Hid ((stA E (m + 1)).2.2 = 0) := by show _ = _; rw [HNX.out]
              have h1 : pushL (flushL PO PG g) ⟨3, t, (xx, nn, u), cc, A⟩ = (stA E (m + 1)).1 := by rw [HNX.out]
              have h2 : ([] : List Op5) = (stA E (m + 1)).2.1 := by rw [HNX.out]
              rw [h1, h2] at cP
              clear H5 h1 h2 HNX HQ HF
              simp only [slV] at d0 d1 d2 d3 d4 d5 d6 cP
              go_wp2_with fail
              refine cP.mono ?_; rintro r w6 ⟨v6, rfl, h6⟩
              have H6 := Hid.mk' h6
              clear cP d0 d1 d2 d3 d4 d5 d6 h6
              go_wp2
              go_roundw
              case rel => exact ⟨m + 1, by omega, by go_num, by rw [H2.out], H6⟩
              case measure => simp [RowKit.intOf]; omega
            · have hfl : PG.foldl pushL PO = flushL PO PG g := by unfold flushL; rw [if_neg hgp]
              rw [hfl] at H1
              have H5 := Hid.mk' H1.out.cleared
              clear hq1 H1 hfl
              obtain ⟨d0, d1, d2, d3, d4, d5, d6⟩ := HBE.out wr H5.out.below
              have cP := push_can ⟨3, t, (xx, nn, u), cc, A⟩ sp sl sc H5.out HF.out.1 HQ.out.2.1 (Nat.le_refl _) (by decide) (Nat.le_refl _) HF.out.2.1 HF.out.2.2.1 HF.out.2.2.2.1 HF.out.2.2.2.2
              have H2 : Hid ((stA E (m + 1)).2.2 = 0) := by show _ = _; rw [HNX.out]
              have h1 : pushL (flushL PO PG g) ⟨3, t, (xx, nn, u), cc, A⟩ = (stA E (m + 1)).1 := by rw [HNX.out]
              have h2 : ([] : List Op5) = (stA E (m + 1)).2.1 := by rw [HNX.out]
              rw [h1, h2] at cP
              clear H5 h1 h2 HNX HQ HF
              simp only [slV] at d0 d1 d2 d3 d4 d5 d6 cP
              go_wp2_with fail
              refine cP.mono ?_; rintro r w6 ⟨v6, rfl, h6⟩
              have H6 := Hid.mk' h6
              clear cP d0 d1 d2 d3 d4 d5 d6 h6
              go_wp2
              go_roundw
              case rel => exact ⟨m + 1, by omega, by go_num, by rw [H2.out], H6⟩
              case measure => simp [RowKit.intOf]; omega
      · have HNX := Hid.mk' (stA_del he hk)
        have cI0 : decide (e.k = 1 ∨ e.k = 2) = false := decide_eq_false (by omega)
        rw [cI0] at cI
        have hcnt := how.count (Or.inr hk)
        have hg2 := hq.2.2.2.2.1
        have hg1 := hq.2.2.2.1
        clear cI0 HF HQ hq hrn how hA ht hat he
        obtain ⟨g, hg⟩ : ∃ x, (stA E m).2.2 = x := ⟨_, rfl⟩
        rw [hg] at HNX hg1 hg2 ⊢
        obtain ⟨k, t, ⟨xx, nn, u⟩, cc, A⟩ := e
        simp only [slV] at hk c0 c1 c2 c3 c4 c5 c6 hec hcnt cI
        subst hk
        go_wp2_with fail
        refine cI.mono ?_; rintro r w1 ⟨rfl, hb1⟩
        have c0' := (hb1.cell (lt_of_cell c0)).trans c0
        have c5' := (hb1.cell (lt_of_cell c5)).trans c5
        have H1 : Hid (CanS w0 w w1 u3 u4 (stA E (m + 1)).1 (stA E (m + 1)).2.1) := by rw [HNX.out]; exact HS.out.keep hb1
        have H2 : Hid ((stA E (m + 1)).2.2 = g + cc) := by show _ = _; rw [HNX.out]
        clear cI HS HNX c0 c1 c2 c3 c4 c5 c6 hg hb1
        go_wp2
        go_roundw
        case rel => exact ⟨m + 1, by omega, by go_num, by rw [H2.out], H1⟩
        case measure => simp [RowKit.intOf]; omega
    · by_cases hmn : m = n
      · subst hmn
        have hge0 : (0 : Int) ≤ (m : Int) := by omega
        have hq := stA_q HN.out.2 (m := m) (by have := HN.out.1; omega)
        have HQ := Hid.mk' hq
        have hst : stA E (m + 1) = (flushL (stA E m).1 (stA E m).2.1 (stA E m).2.2, [], 0) := by
          have e1 := HN.out.1
          rw [← e1, stA_end, stA_at (Nat.le_refl _), List.take_length]
        have HNX := Hid.mk' hst
        clear hq hst hlt
        obtain ⟨PO, hPO⟩ : ∃ x, (stA E m).1 = x := ⟨_, rfl⟩
        obtain ⟨PG, hPG⟩ : ∃ x, (stA E m).2.1 = x := ⟨_, rfl⟩
        obtain ⟨g, hg⟩ : ∃ x, (stA E m).2.2 = x := ⟨_, rfl⟩
        rw [hPO, hPG, hg] at HNX HQ
        rw [hPO, hPG] at HS
        rw [hg]
        clear hPO hPG hg
        have hg2 := HQ.out.2.2.2.2.1
        have hg1 := HQ.out.2.2.2.1
        obtain ⟨pg, cg, rfl⟩ := HS.out.len
        obtain ⟨lg, hlg⟩ : ∃ x, PG.length = x := ⟨_, rfl⟩
        have HLG : Hid (PG.length = lg) := hlg
        have hlg4 : lg ≤ 4194304 := by have := HQ.out.2.2.2.2.2; omega
        have H1 : Hid (CanS w0 w wr u3 (.slice pg PG.length cg) PO PG) := HS
        rw [hlg] at H1 ⊢
        clear hlg HS
        go_wp2
        go_loopw [3, 56] (fun vo i wr2 => ∃ (j : Nat), j ≤ lg ∧ i = .int .i64 j ∧ Hid (CanS w0 w wr2 vo (.slice pg lg cg) ((PG.take j).foldl pushL PO) PG)) (fun _ i _ => lg - (RowKit.intOf i).toNat)
        case atStart => exact ⟨0, Nat.zero_le _, rfl, by rw [List.take_zero]; exact H1⟩
        case round =>
          clear H1
          obtain ⟨j, hj, rfl, H1⟩ := hrel
          by_cases hjl : j < lg
          · have hjI : (j : Int) < lg := by omega
            have hj0 : (0 : Int) ≤ (j : Int) := by omega
            obtain ⟨e', gg, sp', sl', sc', he', rfl, hat', hrn'⟩ := H1.out.read j (by rw [HLG.out]; exact hjl)
            obtain ⟨d0, d1, d2, d3, d4, d5, d6⟩ := hat'
            rw [Nat.zero_add] at d0 d1 d2 d3 d4 d5 d6
            have HB := H1.out.keep ((Below.refl wr.heap.size wr).alloc (Nat.le_refl _) (.cells (opC e' (.slice sp' sl' sc')) 69))
            obtain ⟨a1, a2, a3, a4⟩ := HQ.out.2.2.1 e' (List.mem_of_getElem? he')
            have cP := push_can e' sp' sl' sc' HB hrn' (HQ.out.1 j) (Nat.le_refl _) (by decide) (Nat.le_refl _) a1 a2 a3 a4
            have hP2 : pushL ((PG.take j).foldl pushL PO) e' = (PG.take (j + 1)).foldl pushL PO := by rw [List.take_add_one, he', List.foldl_append]; rfl
            rw [hP2] at cP
            clear HB a1 a2 a3 a4 H1 hrn' he' hP2
            obtain ⟨k', t', ⟨x', n', u'⟩, c', A'⟩ := e'
            simp only [opC, slV] at d0 d1 d2 d3 d4 d5 d6 cP
            go_wp2_with fail
            refine cP.mono ?_; rintro r w5 ⟨v5, rfl, h5⟩
            have H5 := Hid.mk' h5
            clear cP d0 d1 d2 d3 d4 d5 d6 h5
            go_wp2
            go_roundw
            case rel => exact ⟨j + 1, by omega, by go_num, H5⟩
            case measure => simp [RowKit.intOf]; omega
          · obtain rfl : j = lg := by omega
            have hjI : ¬ (j : Int) < j := by omega
            have hq1 := HQ.out.1 j
            rw [show PG.take j = PG by have := HLG.out; rw [← this, List.take_length]] at H1 hq1
            by_cases hgp : 0 < g
            · have cP := push_can (delO g) none 0 0 H1.out (RN.nil w0) hq1 (Nat.le_refl _) (by decide) (Nat.le_refl _) (delO_wel (by omega)) (by show (0 : Nat) ≤ _; omega) (by show (0 : Nat) ≤ _; omega) (by show g ≤ _; omega)
              have hfl : pushL (PG.foldl pushL PO) (delO g) = flushL PO PG g := by unfold flushL; rw [if_pos hgp]
              rw [hfl] at cP
              simp only [delO] at cP
              clear hq1 H1 hfl
              go_wp2_with fail
              refine cP.mono ?_; rintro r w5 ⟨v5, rfl, h5⟩
              have H5 := Hid.mk' h5.cleared
              clear cP h5
              have H2 : Hid ((stA E (m + 1)).2.2 = 0) := by show _ = _; rw [HNX.out]
              have H6 : Hid (CanS w0 w w5 v5 (.slice none 0 0) (stA E (m + 1)).1 (stA E (m + 1)).2.1) := by rw [HNX.out]; exact H5
              clear H5 HNX HQ
              go_wp2
              go_roundw
              case rel => exact ⟨m + 1, by omega, by go_num, by rw [H2.out], H6⟩
              case measure => (simp [RowKit.intOf]) <;> omega
            · have hfl : PG.foldl pushL PO = flushL PO PG g := by unfold flushL; rw [if_neg hgp]
              rw [hfl] at H1
              have H5 := Hid.mk' H1.out.cleared
              clear hq1 H1 hfl
              have H2 : Hid ((stA E (m + 1)).2.2 = 0) := by show _ = _; rw [HNX.out]
              have H6 : Hid (CanS w0 w wr u3 (.slice none 0 0) (stA E (m + 1)).1 (stA E (m + 1)).2.1) := by rw [HNX.out]; exact H5
              clear H5 HNX HQ
              go_wp2
              go_roundw
              case rel => exact ⟨m + 1, by omega, by go_num, by rw [H2.out], H6⟩
              case measure => (simp [RowKit.intOf]) <;> omega
      · obtain rfl : m = n + 1 := by omega
        have hnl1 : ¬ ((n : Int) + 1 ≤ n) := by omega
        have hst : (stA E (n + 1)).1 = flushL (runC E).1 (runC E).2.1 (runC E).2.2 := by
          have e1 := HN.out.1
          rw [← e1, stA_end]
        rw [hst] at HS
        have hq := (stA_q HN.out.2 (m := n) (by have := HN.out.1; omega)).2.1.len
        rw [stA_at (by have := HN.out.1; omega), show E.take n = E by have := HN.out.1; rw [← this, List.take_length]] at hq
        have hcan : canonL E = trimL (flushL (runC E).1 (runC E).2.1 (runC E).2.2) := rfl
        generalize flushL (runC E).1 (runC E).2.1 (runC E).2.2 = P at HS hq hcan
        have hb := HS.out.below
        obtain ⟨D, hown, hD⟩ := HS.out.out
        have hD' := hD
        have hlen := forall2_len hD
        generalize (stA E (n + 1)).2.2 = g at *
        clear HS hst HN HR hD
        rcases List.eq_nil_or_concat P with rfl | ⟨F, x, rfl⟩
        · obtain rfl : D = [] := List.eq_nil_of_length_eq_zero (by simpa using hlen)
          obtain ⟨po, co, hvo⟩ := own_slice hown
          obtain rfl : u3 = .slice po 0 co := hvo
          have HO : Hid (FarO wr w.heap.size (.slice po 0 co) [] ∧ Below w.heap.size w wr) := ⟨far_own hown rfl (fun _ _ h => h) (Nat.le_refl _), hb⟩
          have HC : Hid (canonL E = []) := hcan
          clear hown hb hD' hlen hq hmn hlt hm hcan
          go_wp2
          go_ret
          exact ⟨_, rfl, ⟨[], HO.out.1, by rw [HC.out]; exact .nil⟩, HO.out.2⟩
        · rw [List.concat_eq_append] at hD' hlen hq hcan
          obtain ⟨FD, d, rfl⟩ : ∃ FD d, D = FD ++ [d] := by
            rcases List.eq_nil_or_concat D with rfl | ⟨FD, d, rfl⟩
            · simp at hlen
            · exact ⟨FD, d, List.concat_eq_append⟩
          have hl' : FD.length = F.length := by simpa using hlen
          obtain ⟨hF, hx⟩ := forall2_unappend hl' hD'
          obtain ⟨hx1, hx2, hx3, hx4, hx5⟩ : d.1 = x.k ∧ d.2.1 = x.t ∧ d.2.2.1 = x.v ∧ d.2.2.2.1 = x.c ∧ RN w0 (slV d.2.2.2.2) x.A := by cases hx with | cons a _ => exact a
          obtain ⟨dk, dt, dv, dc, sp, sl, sc⟩ := d
          simp only at hx1 hx2 hx3 hx4
          subst hx1; subst hx2; subst hx3; subst hx4
          have hro := own_rowO hown
          obtain ⟨po, co, hvo, hco1, hco2, hco3⟩ := hro
          obtain ⟨bo, oo, rfl, hat⟩ := hco3 FD.length (x.k, x.t, x.v, x.c, sp, sl, sc) (by simp)
          obtain ⟨c0, c1, c2, c3, c4, c5, c6⟩ := hat
          rw [show (FD ++ [(x.k, x.t, x.v, x.c, sp, sl, sc)]).length = FD.length + 1 by simp] at hvo hco1
          subst hvo
          have hlA : sl = x.A.length := by
            obtain ⟨q, cc, e1, _⟩ := hx5.row
            simp only [slV, Value.slice.injEq] at e1
            exact e1.2.1
          have cP := plain6_any x sp sl sc wr hlA
          have HB := Hid.mk' hb
          have HO := Hid.mk' hown
          have HRF : Hid (FarO wr w.heap.size (.slice (some ⟨bo, oo, none⟩) FD.length co) FD ∧ ReD w0 FD F) := ⟨far_own hown rfl (fun j d hd => by rw [List.getElem?_append_left (List.getElem?_eq_some_iff.1 hd).1]; exact hd) (by simp), hF⟩
          have HRX : Hid (FarO wr w.heap.size (.slice (some ⟨bo, oo, none⟩) (FD.length + 1) co) (FD ++ [(x.k, x.t, x.v, x.c, sp, sl, sc)]) ∧ ReD w0 (FD ++ [(x.k, x.t, x.v, x.c, sp, sl, sc)]) (F ++ [x])) := ⟨by have h := far_own hown rfl (F := FD ++ [(x.k, x.t, x.v, x.c, sp, sl, sc)]) (fun _ _ h => h) (Nat.le_refl _); rw [show (FD ++ [(x.k, x.t, x.v, x.c, sp, sl, sc)]).length = FD.length + 1 by simp] at h; exact h, forall2_append hF hx⟩
          have hFl : FD.length ≤ 4194304 := by simp at hq; omega
          obtain ⟨fl, hfl⟩ : ∃ y, FD.length = y := ⟨_, rfl⟩
          rw [hfl] at HRF HRX hFl hco1 c0 c1 c2 c3 c4 c5 c6 ⊢
          clear hco3 hco2 hx5 hx hF hl' hlen hD' hown hb hq hfl HO hmn hlt hm hlA
          have hf0 : (0 : Int) < (fl : Int) + 1 := by omega
          have hf1 : (fl : Int) + 1 - 1 = (fl : Int) := by omega
          have hf2 : (0 : Int) ≤ (fl : Int) := by omega
          cases hp : plainR x with
          | true =>
            rw [trim_yes hp] at hcan
            have HC := Hid.mk' hcan
            rw [hp] at cP
            clear HRX hp hcan
            obtain ⟨k, t, ⟨xx, nn, u⟩, cc, A⟩ := x
            simp only [slV] at c0 c1 c2 c3 c4 c5 c6 cP
            go_wp2_with fail
            refine cP.mono ?_; rintro r w1 ⟨rfl, hb1⟩
            have HB1 : Hid (Below w.heap.size w w1) := HB.out.trans (hb1.mono HB.out.size)
            have HR1 := Hid.mk' (And.intro (HRF.out.1.below hb1) HRF.out.2)
            clear cP c0 c1 c2 c3 c4 c5 c6 HRF HB hb1
            go_wp2
            go_ret
            exact ⟨_, rfl, ⟨_, HR1.out.1, by rw [HC.out]; exact HR1.out.2⟩, HB1.out⟩
          | false =>
            rw [trim_no hp] at hcan
            have HC := Hid.mk' hcan
            rw [hp] at cP
            clear HRF hp hcan
            obtain ⟨k, t, ⟨xx, nn, u⟩, cc, A⟩ := x
            simp only [slV] at c0 c1 c2 c3 c4 c5 c6 cP
            go_wp2_with fail
            refine cP.mono ?_; rintro r w1 ⟨rfl, hb1⟩
            have HB1 : Hid (Below w.heap.size w w1) := HB.out.trans (hb1.mono HB.out.size)
            have HR1 := Hid.mk' (And.intro (HRX.out.1.below hb1) HRX.out.2)
            clear cP c0 c1 c2 c3 c4 c5 c6 HRX HB hb1
            go_wp2
            go_ret
            exact ⟨_, rfl, ⟨_, HR1.out.1, by rw [HC.out]; exact HR1.out.2⟩, HB1.out⟩
end Go.Proofs.YtalfdjglbbmjcabGreatDoor

/- The document's op, Doc, Of, SameList of layer 9. -/
namespace Go.Proofs.YtalfdjglbbmjcabGreatDoor
open Go Go.RowKit Go.Lib
set_option linter.unusedVariables false

instance instDecC5 : DecidableEq C5 := fun a b => by unfold C5 at a b; exact inferInstance
instance instDecLC5 : DecidableEq (List C5) := fun a b => by exact instDecidableEqList a b
theorem take_snoc9 {α : Type} {E E' : List α} {k : Nat} {e e' : α} (h : E.take k = E'.take k) (h1 : E[k]? = some e) (h2 : E'[k]? = some e') (h3 : e = e') : E.take (k + 1) = E'.take (k + 1) := by
  rw [List.take_add_one, List.take_add_one, h, h1, h2, h3]
theorem ne_at9 {α : Type} {E E' : List α} {k : Nat} {e e' : α} (h1 : E[k]? = some e) (h2 : E'[k]? = some e') (h3 : ¬ e = e') : ¬ E = E' := fun h => by
  rw [h, h2] at h1
  exact h3 (Option.some.inj h1).symm
theorem ce_of {w : World} {d : CV} {e : C5} (h : d.1 = e.1 ∧ d.2.1 = e.2.1 ∧ d.2.2.1 = e.2.2.1 ∧ RN w (slV d.2.2.2) e.2.2.2) : ceV d = ceP e (slV d.2.2.2) := by
  obtain ⟨dk, dt, dv, ds⟩ := d
  obtain ⟨x1, x2, x3, _⟩ := h
  simp only at x1 x2 x3
  subst x1; subst x2; subst x3; rfl
set_option maxHeartbeats 2000000 in
set_option maxRecDepth 100000 in
theorem sameL9_any (v v' : Value) (D D' : List CV) (E E' : List C5) (w : World) (hrow : RowC w v D) (hrow' : RowC w v' D') (hre : Are w D E) (hre' : Are w D' E') (hl : E.length ≤ 2097152) (hl' : E'.length ≤ 2097152) (hA : ∀ e ∈ E, e.2.2.2.length ≤ 4194304) (hA' : ∀ e ∈ E', e.2.2.2.length ≤ 4194304) :
    Calls Tryz.prog 15 #[v, v'] w fun r w' => r = .returned (.bool (decide (E = E'))) ∧ Below w.heap.size w w' := by
  have hE := forall2_len hre
  have hE' := forall2_len hre'
  obtain ⟨n, hn⟩ : ∃ n, D.length = n := ⟨_, rfl⟩
  obtain ⟨m, hm⟩ : ∃ m, D'.length = m := ⟨_, rfl⟩
  obtain ⟨pa, ca, rfl, ha, _, hca⟩ := hrow
  obtain ⟨pb, cb, rfl, hb, _, hcb⟩ := hrow'
  rw [hn] at ha hE ⊢
  rw [hm] at hb hE' ⊢
  have HN : Hid (D.length = n ∧ D'.length = m ∧ E.length = n ∧ E'.length = m) := ⟨hn, hm, hE.symm, hE'.symm⟩
  by_cases hnm : n = m
  · subst hnm
    have HA : Hid (D ≠ [] → ∃ b off, pa = some ⟨b, off, none⟩ ∧ InC w b off D) := hca
    have HB : Hid (D' ≠ [] → ∃ b off, pb = some ⟨b, off, none⟩ ∧ InC w b off D') := hcb
    have hl : n ≤ 2097152 := by omega
    have CC : Hid (∀ (k : Nat) d d', D[k]? = some d → D'[k]? = some d' → ∃ e e', E[k]? = some e ∧ E'[k]? = some e' ∧ ∀ W, Below w.heap.size w W → Calls Tryz.prog 27 #[ceV d, ceV d'] W fun r w' => r = .returned (.bool (decide (e = e'))) ∧ Below W.heap.size W w') := fun k d d' h1 h2 => by
      obtain ⟨y, hy, r1⟩ := forall2_get hre k d h1
      obtain ⟨y', hy', r2⟩ := forall2_get hre' k d' h2
      refine ⟨y, y', hy, hy', fun W hW => ?_⟩
      rw [ce_of r1, ce_of r2]
      exact sameR9_any y y' _ _ W (r1.2.2.2.below hW).row (r2.2.2.2.below hW).row (hA y (List.mem_of_getElem? hy)) (hA' y' (List.mem_of_getElem? hy'))
    clear hca hcb hn hm hre hre' hE hE' hA hA' hl'
    go_enter Tryz.func15, Tryz.ntmps15
    go_wp2
    go_loopw [13, 5] (fun i _ wr => ∃ (k : Nat), k ≤ n ∧ i = .int .i64 k ∧ Hid (E.take k = E'.take k) ∧ Below w.heap.size w wr) (fun i _ _ => n - (RowKit.intOf i).toNat)
    case atStart => exact ⟨0, Nat.zero_le _, rfl, rfl, Below.refl _ _⟩
    case round =>
      obtain ⟨k, hk, rfl, HT, hbw⟩ := hrel
      by_cases hlt : k < n
      · have hltI : (k : Int) < n := by omega
        obtain ⟨d, hd⟩ : ∃ q, D[k]? = some q := ⟨_, List.getElem?_eq_getElem (by rw [HN.out.1]; exact hlt)⟩
        obtain ⟨d', hd'⟩ : ∃ q, D'[k]? = some q := ⟨_, List.getElem?_eq_getElem (by rw [HN.out.2.1]; exact hlt)⟩
        obtain ⟨e, e', he, he', cc⟩ := CC.out k d d' hd hd'
        obtain ⟨b, off, rfl, hin⟩ := HA.out (by intro e; rw [e] at hd; simp at hd)
        obtain ⟨b', off', rfl, hin'⟩ := HB.out (by intro e; rw [e] at hd'; simp at hd')
        obtain ⟨x0, x1, x2, x3, x4, x5⟩ := cellsC_get D k d hd
        obtain ⟨y0, y1, y2, y3, y4, y5⟩ := cellsC_get D' k d' hd'
        have c0 := (hin.below hbw) _ _ x0
        have c1 := (hin.below hbw) _ _ x1
        have c2 := (hin.below hbw) _ _ x2
        have c3 := (hin.below hbw) _ _ x3
        have c4 := (hin.below hbw) _ _ x4
        have c5 := (hin.below hbw) _ _ x5
        have d0 := (hin'.below hbw) _ _ y0
        have d1 := (hin'.below hbw) _ _ y1
        have d2 := (hin'.below hbw) _ _ y2
        have d3 := (hin'.below hbw) _ _ y3
        have d4 := (hin'.below hbw) _ _ y4
        have d5 := (hin'.below hbw) _ _ y5
        simp only [← Nat.add_assoc] at c0 c1 c2 c3 c4 c5 d0 d1 d2 d3 d4 d5
        have HEE : Hid (E[k]? = some e ∧ E'[k]? = some e') := ⟨he, he'⟩
        clear x0 x1 x2 x3 x4 x5 y0 y1 y2 y3 y4 y5 hin hin' hd hd' he he'
        obtain ⟨f, t, ⟨x, z, u⟩, p, j, c⟩ := d
        obtain ⟨f', t', ⟨x', z', u'⟩, p', j', c'⟩ := d'
        simp only [slV] at c0 c1 c2 c3 c4 c5 d0 d1 d2 d3 d4 d5
        simp only [ceV, slV] at cc
        have HU : Hid (∀ w', Below wr.drew.heap.size wr.drew w' → (w'.cell? ⟨b, off + k * 6, none⟩ = some (.int .i32 f) ∧ w'.cell? ⟨b, off + k * 6 + 1, none⟩ = some (.string t) ∧ w'.cell? ⟨b, off + k * 6 + 2, none⟩ = some (.int .i64 x) ∧ w'.cell? ⟨b, off + k * 6 + 3, none⟩ = some (.int .i64 z) ∧ w'.cell? ⟨b, off + k * 6 + 4, none⟩ = some (.string u) ∧ w'.cell? ⟨b, off + k * 6 + 5, none⟩ = some (.slice p j c) ∧ w'.cell? ⟨b', off' + k * 6, none⟩ = some (.int .i32 f') ∧ w'.cell? ⟨b', off' + k * 6 + 1, none⟩ = some (.string t') ∧ w'.cell? ⟨b', off' + k * 6 + 2, none⟩ = some (.int .i64 x') ∧ w'.cell? ⟨b', off' + k * 6 + 3, none⟩ = some (.int .i64 z') ∧ w'.cell? ⟨b', off' + k * 6 + 4, none⟩ = some (.string u') ∧ w'.cell? ⟨b', off' + k * 6 + 5, none⟩ = some (.slice p' j' c'))) := fun w' hb => ⟨(hb.cell (lt_of_cell (w := wr.drew) c0)).trans c0, (hb.cell (lt_of_cell (w := wr.drew) c1)).trans c1, (hb.cell (lt_of_cell (w := wr.drew) c2)).trans c2, (hb.cell (lt_of_cell (w := wr.drew) c3)).trans c3, (hb.cell (lt_of_cell (w := wr.drew) c4)).trans c4, (hb.cell (lt_of_cell (w := wr.drew) c5)).trans c5, (hb.cell (lt_of_cell (w := wr.drew) d0)).trans d0, (hb.cell (lt_of_cell (w := wr.drew) d1)).trans d1, (hb.cell (lt_of_cell (w := wr.drew) d2)).trans d2, (hb.cell (lt_of_cell (w := wr.drew) d3)).trans d3, (hb.cell (lt_of_cell (w := wr.drew) d4)).trans d4, (hb.cell (lt_of_cell (w := wr.drew) d5)).trans d5⟩
        have hz0 : w.heap.size ≤ wr.drew.heap.size := hbw.size
        obtain ⟨q, hq⟩ : ∃ q, decide (e = e') = q := ⟨_, rfl⟩
        rw [hq] at cc
        have HQ : Hid (decide (e = e') = q) := hq
        clear hq
        cases q with
        | true =>
          have HT2 : Hid (E.take (k + 1) = E'.take (k + 1)) := take_snoc9 HT.out HEE.out.1 HEE.out.2 (of_decide_eq_true HQ.out)
          go_wp2_with fail
          go_region_held3 (fun w' => (w'.cell? ⟨b, off + k * 6, none⟩ = some (.int .i32 f) ∧ w'.cell? ⟨b, off + k * 6 + 1, none⟩ = some (.string t) ∧ w'.cell? ⟨b, off + k * 6 + 2, none⟩ = some (.int .i64 x) ∧ w'.cell? ⟨b, off + k * 6 + 3, none⟩ = some (.int .i64 z) ∧ w'.cell? ⟨b, off + k * 6 + 4, none⟩ = some (.string u) ∧ w'.cell? ⟨b, off + k * 6 + 5, none⟩ = some (.slice p j c) ∧ w'.cell? ⟨b', off' + k * 6, none⟩ = some (.int .i32 f') ∧ w'.cell? ⟨b', off' + k * 6 + 1, none⟩ = some (.string t') ∧ w'.cell? ⟨b', off' + k * 6 + 2, none⟩ = some (.int .i64 x') ∧ w'.cell? ⟨b', off' + k * 6 + 3, none⟩ = some (.int .i64 z') ∧ w'.cell? ⟨b', off' + k * 6 + 4, none⟩ = some (.string u') ∧ w'.cell? ⟨b', off' + k * 6 + 5, none⟩ = some (.slice p' j' c')) ∧ Below w.heap.size w w')
            (exact ⟨by first | (with_reducible assumption) | (simp [*]; done), by first | (with_reducible assumption) | exact hbw.drew⟩)
            (first | (go_at_call 27; refine (cc _ ?_).mono ?_; (· first | assumption | exact hbw.drew | (apply And.right; assumption)); rintro r w3 ⟨rfl, b3⟩; have b4 : Below w.heap.size w w3 := (hbw.drew).trans (b3.mono hz0); have mm := HU.out _ b3))
          clear cc mm b3
          go_wp2
          go_roundw
          case rel => exact ⟨k + 1, by omega, by go_num, HT2, b4⟩
          case measure => simp [RowKit.intOf]; omega
        | false =>
          have hfin : Hid (decide (E = E') = false) := decide_eq_false (ne_at9 HEE.out.1 HEE.out.2 (of_decide_eq_false HQ.out))
          go_wp2_with fail
          go_region_held3 (fun w' => (w'.cell? ⟨b, off + k * 6, none⟩ = some (.int .i32 f) ∧ w'.cell? ⟨b, off + k * 6 + 1, none⟩ = some (.string t) ∧ w'.cell? ⟨b, off + k * 6 + 2, none⟩ = some (.int .i64 x) ∧ w'.cell? ⟨b, off + k * 6 + 3, none⟩ = some (.int .i64 z) ∧ w'.cell? ⟨b, off + k * 6 + 4, none⟩ = some (.string u) ∧ w'.cell? ⟨b, off + k * 6 + 5, none⟩ = some (.slice p j c) ∧ w'.cell? ⟨b', off' + k * 6, none⟩ = some (.int .i32 f') ∧ w'.cell? ⟨b', off' + k * 6 + 1, none⟩ = some (.string t') ∧ w'.cell? ⟨b', off' + k * 6 + 2, none⟩ = some (.int .i64 x') ∧ w'.cell? ⟨b', off' + k * 6 + 3, none⟩ = some (.int .i64 z') ∧ w'.cell? ⟨b', off' + k * 6 + 4, none⟩ = some (.string u') ∧ w'.cell? ⟨b', off' + k * 6 + 5, none⟩ = some (.slice p' j' c')) ∧ Below w.heap.size w w')
            (exact ⟨by first | (with_reducible assumption) | (simp [*]; done), by first | (with_reducible assumption) | exact hbw.drew⟩)
            (first | (go_at_call 27; refine (cc _ ?_).mono ?_; (· first | assumption | exact hbw.drew | (apply And.right; assumption)); rintro r w3 ⟨rfl, b3⟩; have b4 : Below w.heap.size w w3 := (hbw.drew).trans (b3.mono hz0); have mm := HU.out _ b3))
          clear cc mm b3
          go_wp2
          go_ret
          exact ⟨by rw [hfin.out]; rfl, b4⟩
      · have hltI : ¬ (k : Int) < n := by omega
        have hfin : Hid (decide (E = E') = true) := decide_eq_true (by
          have := HT.out
          rwa [List.take_of_length_le (by rw [HN.out.2.2.1]; omega), List.take_of_length_le (by rw [HN.out.2.2.2]; omega)] at this)
        go_wp2
        go_ret
        exact ⟨by rw [hfin.out]; rfl, hbw⟩
  · have hne : ((n : Int) != m) = true := by simp; omega
    have hfin : Hid (decide (E = E') = false) := decide_eq_false (fun h => hnm (by rw [← HN.out.2.2.1, ← HN.out.2.2.2, h]))
    clear hca hcb hn hm hre hre' hE hE' hA hA' hnm HN hl hl'
    go_enter Tryz.func15, Tryz.ntmps15
    go_wp2
    go_ret
    exact ⟨by rw [hfin.out]; rfl, Below.refl _ _⟩

set_option maxHeartbeats 2000000 in
theorem op9_any (e : C5) (p : Option Addr) (l c : Nat) (w : World) (hb : ¬ badC e) :
    Calls Tryz.prog 70 #[ceP e (.slice p l c)] w fun r w' => r = .returned (opV (opOf e) (.slice p l c)) ∧ Below w.heap.size w w' := by
  obtain ⟨k, t, ⟨x, n, u⟩, A⟩ := e
  have b0 := (Below.refl w.heap.size w).alloc (Nat.le_refl _) (.cells (ceA (k, t, (x, n, u), A) (.slice p l c)) 30)
  simp only [ceA] at b0
  by_cases hk : k = -1
  · subst hk
    rw [show opOf (-1, t, (x, n, u), A) = ⟨2, t, (x, n, u), 0, A⟩ from rfl]
    clear hb
    go_enter Tryz.func70, Tryz.ntmps70
    go_wp2
    exact bodyPost_ret (v := opV ⟨2, t, (x, n, u), 0, A⟩ (.slice p l c)) (by simp [results, Tryz.results70, go_sem]) rfl ⟨rfl, by go_grown⟩
  · have h1 : isScal k ∧ t = ⟨#[]⟩ ∧ ((x, n, u) : P3) = z0 := by
      unfold badC at hb
      simp only [ne_eq, not_and, not_or, Decidable.not_not] at hb
      exact hb hk
    obtain ⟨h1, rfl, h3⟩ := h1
    simp only [z0, Prod.mk.injEq] at h3
    obtain ⟨rfl, rfl, rfl⟩ := h3
    obtain ⟨r, rfl, hr⟩ := scal_of h1
    rw [show opOf ((r : Int), ⟨#[]⟩, (0, 0, ⟨#[]⟩), A) = ⟨1, ⟨(enc r).toArray⟩, z0, 0, A⟩ from opOf_scal hr A]
    have hr1 : ((r : Int) == -1) = false := by rw [beq_eq_false_iff_ne]; omega
    have henc := encU_eq hr
    obtain ⟨t0, ht0⟩ : ∃ t0, (⟨(enc r).toArray⟩ : ByteArray) = t0 := ⟨_, rfl⟩
    rw [ht0] at henc ⊢
    clear hb h1 hr hk ht0
    go_enter Tryz.func70, Tryz.ntmps70
    go_wp2
    exact bodyPost_ret (v := opV ⟨1, t0, z0, 0, A⟩ (.slice p l c)) (by simp [results, Tryz.results70, go_sem, z0]) rfl ⟨rfl, by go_grown⟩
set_option maxHeartbeats 4000000 in
set_option maxRecDepth 100000 in
theorem doc9_any {w0 : World} (v : Value) (D0 : List CV) (E : List C5) (w : World) (hb0 : Below w0.heap.size w0 w) (hrow : RowC w v D0) (hre : Are w0 D0 E) (hg : ∀ e ∈ E, celE e = 0) (ok : OkE (E.map opOf)) (hl : E.length ≤ 1048576) :
    Calls Tryz.prog 44 #[v] w fun r w' => ∃ lv, r = .returned lv ∧ (∃ D', FarO w' w.heap.size lv D' ∧ ReD w0 D' (docOf E)) ∧ Below w.heap.size w w' := by
  have hDE := forall2_len hre
  obtain ⟨n, hn⟩ : ∃ n, D0.length = n := ⟨_, rfl⟩
  obtain ⟨p, cap, rfl, hcap, hnz, hc⟩ := hrow
  have HC : Hid (D0 ≠ [] → ∃ b off, p = some ⟨b, off, none⟩ ∧ InC w b off D0) := hc
  have HN : Hid (D0.length = n ∧ E.length = n) := ⟨hn, by rw [← hDE, hn]⟩
  have HE : Hid (Are w0 D0 E ∧ (∀ e ∈ E, celE e = 0) ∧ OkE (E.map opOf)) := ⟨hre, hg, ok⟩
  have hl : n ≤ 1048576 := by rw [← hn, hDE]; exact hl
  have HB0 : Hid (Below w0.heap.size w0 w) := hb0
  rw [hn] at hcap ⊢
  clear hc hn hDE hre hg ok hnz hb0
  have o0 := own_emptyO w w.heap.size (Nat.le_refl _)
  have b0 := (Below.refl w.heap.size w).alloc (Nat.le_refl _) (.cells #[] 69)
  obtain ⟨W0, hW0⟩ : ∃ W, W = w.alloc (.cells #[] 69) := ⟨_, rfl⟩
  obtain ⟨v0, hv0⟩ : ∃ v0 : Value, v0 = .slice (some ⟨w.heap.size, 0, none⟩) 0 0 := ⟨_, rfl⟩
  rw [← hW0, ← hv0] at o0
  rw [← hW0] at b0
  go_enter Tryz.func44, Tryz.ntmps44
  go_wp2
  rw [← hW0, ← hv0]
  clear hW0 hv0
  go_loopw [3, 9] (fun o i wr => ∃ (k : Nat) (D : List OV), k ≤ n ∧ i = .int .i64 k ∧ Hid (OwnO wr w.heap.size o D ∧ ReD w0 D ((E.take k).map opOf) ∧ D.length = k) ∧ Below w.heap.size w wr) (fun _ i _ => n - (RowKit.intOf i).toNat)
  case atStart => exact ⟨0, [], Nat.zero_le _, rfl, ⟨o0, by rw [List.take_zero]; exact .nil, rfl⟩, b0⟩
  case round =>
    clear o0 b0
    obtain ⟨k, D, hk, rfl, HD, hbw⟩ := hrel
    by_cases hlt : k < n
    · have hltI : (k : Int) < n := by omega
      obtain ⟨d, hd⟩ : ∃ d, D0[k]? = some d := ⟨_, List.getElem?_eq_getElem (by rw [HN.out.1]; exact hlt)⟩
      obtain ⟨e, he, hr⟩ := forall2_get HE.out.1 k d hd
      obtain ⟨b, off, rfl, hin⟩ := HC.out (by intro e; rw [e] at hd; simp at hd)
      obtain ⟨x0, x1, x2, x3, x4, x5⟩ := cellsC_get D0 k d hd
      have c0 := (hin.below hbw) _ _ x0
      have c1 := (hin.below hbw) _ _ x1
      have c2 := (hin.below hbw) _ _ x2
      have c3 := (hin.below hbw) _ _ x3
      have c4 := (hin.below hbw) _ _ x4
      have c5 := (hin.below hbw) _ _ x5
      simp only [← Nat.add_assoc] at c0 c1 c2 c3 c4 c5
      have hgd := HE.out.2.1 e (List.mem_of_getElem? he)
      have cS := op9_any e d.2.2.2.1 d.2.2.2.2.1 d.2.2.2.2.2 (wr.alloc (.cells (ceC d) 30)) (not_bad hgd)
      rw [show ceP e (.slice d.2.2.2.1 d.2.2.2.2.1 d.2.2.2.2.2) = ceV d from (ce_of hr).symm] at cS
      have HT : Hid (E.take (k + 1) = E.take k ++ [e]) := by show _ = _; rw [List.take_add_one, he]; rfl
      have HR : Hid (RN w0 (slV d.2.2.2) (opOf e).A) := by show RN _ _ _; rw [opOf_A]; exact hr.2.2.2
      obtain ⟨o, ho⟩ : ∃ o, opOf e = o := ⟨_, rfl⟩
      have HOE : Hid (opOf e = o) := ho
      rw [ho] at cS HR
      have bw : Below wr.heap.size wr (wr.alloc (.cells (ceC d) 30)) := (Below.refl _ _).alloc (Nat.le_refl _) _
      clear hd he hr hin x0 x1 x2 x3 x4 x5 hgd ho
      obtain ⟨dk, dt, ⟨dx, dn, du⟩, ds⟩ := d
      obtain ⟨dp, dl, dcap⟩ := ds
      obtain ⟨ok, ot, ⟨ox, on, ou⟩, oc, oA⟩ := o
      simp only [slV, ceC, ceV] at c0 c1 c2 c3 c4 c5 cS bw HR
      go_wp2_with fail
      refine cS.mono ?_; rintro r w5 ⟨rfl, hb5⟩
      have b5 := bw.trans (hb5.mono bw.size)
      have ba : Below w5.heap.size w5 (w5.alloc (.cells #[.int .i64 ok, .string ot, .int .i64 ox, .int .i64 on, .string ou, .int .i64 oc, .slice dp dl dcap] 69)) := (Below.refl _ _).alloc (Nat.le_refl _) _
      have b6 := b5.trans (ba.mono b5.size)
      have HO7 : Hid (OwnO (w5.alloc (.cells #[.int .i64 ok, .string ot, .int .i64 ox, .int .i64 on, .string ou, .int .i64 oc, .slice dp dl dcap] 69)) w.heap.size u3 D ∧ OpAt (w5.alloc (.cells #[.int .i64 ok, .string ot, .int .i64 ox, .int .i64 on, .string ou, .int .i64 oc, .slice dp dl dcap] 69)) w5.heap.size 0 (ok, ot, (ox, on, ou), oc, dp, dl, dcap)) := ⟨owns_below HD.out.1 b6, ⟨by simp, by simp, by simp, by simp, by simp, by simp, by simp⟩⟩
      have HP7 : Hid (ReD w0 (D ++ [(ok, ot, (ox, on, ou), oc, dp, dl, dcap)]) ((E.take (k + 1)).map opOf) ∧ (D ++ [(ok, ot, (ox, on, ou), oc, dp, dl, dcap)]).length = k + 1) := by
        refine ⟨?_, by rw [List.length_append, HD.out.2.2]; rfl⟩
        rw [HT.out, List.map_append]
        exact forall2_append HD.out.2.1 (.cons (by rw [HOE.out]; exact ⟨rfl, rfl, rfl, rfl, HR.out⟩) .nil)
      have hge : Hid (∀ j, u3.ownBlock = some j → w.heap.size ≤ j) := fun j hj => (owns_block HD.out.1 j hj).1
      have bw7 := hbw.trans (b6.mono hbw.size)
      have hlen : D.length ≤ 33554432 := by have := HD.out.2.2; omega
      clear HD HT HR HOE cS bw hb5 b5 ba b6 c0 c1 c2 c3 c4 c5
      go_wp2_with (at_builtin; refine wpList_append_ops rfl (.tmp 13) (.tmp 16) rfl w.heap.size u3 D rfl HO7.out.1 w5.heap.size 1 _ rfl HO7.out.2 hlen bw7.size ?_; intro v8 w8 own8 gr8 hat8)
      have b8 := bw7.grown gr8 bw7.size (fun j hj => hge.out j hj)
      go_roundw
      case rel => exact ⟨k + 1, _, by omega, by go_num, ⟨own8, HP7.out.1, HP7.out.2⟩, b8⟩
      case measure => simp [RowKit.intOf]; omega
    · have hltI : ¬ (k : Int) < n := by omega
      have hE : E.take k = E := List.take_of_length_le (by rw [HN.out.2]; omega)
      obtain ⟨h1, h2, h3⟩ := HD.out
      rw [hE] at h2
      have cD := canon6_any (w0 := w0) u3 D (E.map opOf) wr (HB0.out.trans (hbw.mono HB0.out.size)) (own_rowO h1) h2 HE.out.2.2
      clear h1 h2 h3 HD hE
      go_wp2_with fail
      refine cD.mono ?_; rintro r w5 ⟨lv, rfl, ⟨D', hf, hr'⟩, hb5⟩
      have b5 := hbw.trans (hb5.mono hbw.size)
      have HF : Hid (∃ D', FarO w5 w.heap.size lv D' ∧ ReD w0 D' (docOf E)) := ⟨D', hf.weaken hbw.size, hr'⟩
      clear cD hf hr' hb5
      go_wp2
      go_ret
      exact ⟨lv, rfl, HF.out, b5⟩
set_option maxHeartbeats 4000000 in
set_option maxRecDepth 100000 in
theorem refOf9_any {I : List Nat} {a : Nat → Addr} {w0 : World} (v : Value) (D0 : List CV) (E : List C5) (w : World) (hS : Std I a w) (hb0 : Below w0.heap.size w0 w) (hrow : RowC w v D0) (hre : Are w0 D0 E) (hF : ∀ e ∈ E, FitC e) (hl : E.length ≤ 1048576) (ht : txtS (E.map opOf) ≤ 8388608) :
    Calls Tryz.prog 14 #[v] w fun r w' => ∃ lv, r = .returned (.tuple #[lv, .int .i64 (celP E).1, .int .i64 (celP E).2]) ∧ ((celP E).2 = 0 → ∃ D', FarO w' w.heap.size lv D' ∧ ReD w0 D' (docOf E)) ∧ ((celP E).2 ≠ 0 → lv = .slice none 0 0) ∧ Below w.heap.size w w' := by
  have hDE := forall2_len hre
  obtain ⟨n, hn⟩ : ∃ n, D0.length = n := ⟨_, rfl⟩
  have HW : Hid (RowC w v D0 ∧ Are w0 D0 E ∧ (∀ e ∈ E, FitC e) ∧ txtS (E.map opOf) ≤ 8388608) := ⟨hrow, hre, hF, ht⟩
  have HB0 : Hid (Below w0.heap.size w0 w) := hb0
  obtain ⟨p, cap, rfl, hcap, hnz, hc⟩ := hrow
  have HC : Hid (D0 ≠ [] → ∃ b off, p = some ⟨b, off, none⟩ ∧ InC w b off D0) := hc
  have HN : Hid (D0.length = n ∧ E.length = n) := ⟨hn, by rw [← hDE, hn]⟩
  have hl : n ≤ 1048576 := by rw [← hn, hDE]; exact hl
  have HK : Hid (∀ W (k : Nat) d e, Below w.heap.size w W → D0[k]? = some d → E[k]? = some e → Calls Tryz.prog 12 #[ceV d] W fun r w' => r = .returned (.int .i64 (celE e)) ∧ Below W.heap.size W w') := fun W k d e hW h1 h2 => by
    obtain ⟨y, hy, r1⟩ := forall2_get hre k d h1
    obtain rfl : y = e := Option.some.inj (hy.symm.trans h2)
    rw [ce_of r1]
    exact checkR9_any y _ _ _ W (hS.below hW) ((r1.2.2.2.below hb0).below hW) (hF y (List.mem_of_getElem? hy))
  have HE : Hid (∀ k d, D0[k]? = some d → ∃ e, E[k]? = some e) := fun k d h => by obtain ⟨y, hy, _⟩ := forall2_get hre k d h; exact ⟨y, hy⟩
  rw [hn] at hcap HW ⊢
  clear hc hn hDE hre hnz hF hS ht hb0
  go_enter Tryz.func14, Tryz.ntmps14
  go_wp2
  go_loopw [10] (fun i wr => ∃ (k : Nat), k ≤ n ∧ i = .int .i64 k ∧ Hid (∀ e ∈ E.take k, celE e = 0) ∧ Below w.heap.size w wr) (fun i _ => n - (RowKit.intOf i).toNat)
  case atStart => exact ⟨0, Nat.zero_le _, rfl, fun e he => (by rw [List.take_zero] at he; cases he), Below.refl _ _⟩
  case round =>
    obtain ⟨k, hk, rfl, HO, hbw⟩ := hrel
    by_cases hlt : k < n
    · have hltI : (k : Int) < n := by omega
      obtain ⟨d, hd⟩ : ∃ d, D0[k]? = some d := ⟨_, List.getElem?_eq_getElem (by rw [HN.out.1]; exact hlt)⟩
      obtain ⟨e, he⟩ := HE.out k d hd
      obtain ⟨b, off, rfl, hin⟩ := HC.out (by intro e; rw [e] at hd; simp at hd)
      obtain ⟨x0, x1, x2, x3, x4, x5⟩ := cellsC_get D0 k d hd
      have c0 := (hin.below hbw) _ _ x0
      have c1 := (hin.below hbw) _ _ x1
      have c2 := (hin.below hbw) _ _ x2
      have c3 := (hin.below hbw) _ _ x3
      have c4 := (hin.below hbw) _ _ x4
      have c5 := (hin.below hbw) _ _ x5
      simp only [← Nat.add_assoc] at c0 c1 c2 c3 c4 c5
      have bw : Below wr.heap.size wr (wr.alloc (.cells (ceC d) 30)) := (Below.refl _ _).alloc (Nat.le_refl _) _
      have ba : Below w.heap.size w (wr.alloc (.cells (ceC d) 30)) := hbw.trans (bw.mono hbw.size)
      have cP := HK.out _ k d e ba hd he
      have HT : Hid (E.take (k + 1) = E.take k ++ [e] ∧ E[k]? = some e) := by refine ⟨?_, he⟩; rw [List.take_add_one, he]; rfl
      obtain ⟨rz, hrz⟩ : ∃ z, celE e = z := ⟨_, rfl⟩
      rw [hrz] at cP
      cases rz with
      | zero =>
        have HO2 : Hid (∀ e ∈ E.take (k + 1), celE e = 0) := by
          show ∀ e ∈ E.take (k + 1), celE e = 0
          rw [HT.out.1]
          intro y hy
          rcases List.mem_append.1 hy with hy | hy
          · exact HO.out y hy
          · rw [List.mem_singleton.1 hy]; exact hrz
        clear HO hin hd he hrz HT x0 x1 x2 x3 x4 x5 bw
        obtain ⟨dk, dt, ⟨dx, dn, du⟩, ds⟩ := d
        obtain ⟨dp, dl, dcap⟩ := ds
        simp only [slV, ceC, ceV] at c0 c1 c2 c3 c4 c5 cP ba
        go_wp2_with fail
        refine cP.mono ?_; rintro r w5 ⟨rfl, h5⟩
        have b5 : Below w.heap.size w w5 := ba.trans (h5.mono ba.size)
        clear cP c0 c1 c2 c3 c4 c5 ba h5
        go_wp2
        go_roundw
        case rel => exact ⟨k + 1, by omega, by go_num, HO2, b5⟩
        case measure => simp [RowKit.intOf]; omega
      | succ x =>
        have HB : Hid (celP E = (k, x + 1)) := by
          have := cel_at he HO.out (by rw [hrz]; omega)
          rw [hrz] at this
          exact this
        obtain ⟨xx, hxx⟩ : ∃ xx : Int, ((x + 1 : Nat) : Int) = xx := ⟨_, rfl⟩
        have hx0 : (xx != 0) = true := by rw [bne_iff_ne]; omega
        have HXX : Hid (((x + 1 : Nat) : Int) = xx) := hxx
        rw [hxx] at cP
        clear HO hin hd he hrz HT x0 x1 x2 x3 x4 x5 bw hxx
        obtain ⟨dk, dt, ⟨dx, dn, du⟩, ds⟩ := d
        obtain ⟨dp, dl, dcap⟩ := ds
        simp only [slV, ceC, ceV] at c0 c1 c2 c3 c4 c5 cP ba
        go_wp2_with fail
        refine cP.mono ?_; rintro r w5 ⟨rfl, hb5⟩
        have b5 := ba.trans (hb5.mono ba.size)
        clear cP c0 c1 c2 c3 c4 c5 ba hb5
        go_wp2
        go_ret3
        exact ⟨.slice none 0 0, by rw [HB.out, ← HXX.out]; rfl, fun h => (by rw [HB.out] at h; cases h), fun _ => rfl, b5⟩
    · have hltI : ¬ (k : Int) < n := by omega
      have hE : E.take k = E := List.take_of_length_le (by rw [HN.out.2]; omega)
      rw [hE] at HO
      have HB : Hid (celP E = (0, 0)) := cel_none HO.out
      have cD := doc9_any (w0 := w0) _ D0 E wr (HB0.out.trans (hbw.mono HB0.out.size)) (HW.out.1.below hbw) HW.out.2.1 HO.out (okE_cells HO.out HW.out.2.2.1 HW.out.2.2.2 (by rw [HN.out.2]; exact hl)) (by rw [HN.out.2]; exact hl)
      clear hE HO
      go_wp2_with fail
      refine cD.mono ?_; rintro r w5 ⟨lv, rfl, ⟨D', h5, h6⟩, hb5⟩
      have HFF : Hid (∃ D', FarO w5 w.heap.size lv D' ∧ ReD w0 D' (docOf E)) := ⟨D', h5.weaken hbw.size, h6⟩
      have b5 := hbw.trans (hb5.mono hbw.size)
      clear cD h5 h6 hb5
      go_wp2
      go_ret3
      exact ⟨lv, by rw [HB.out]; rfl, fun _ => HFF.out, fun h => absurd (by rw [HB.out]) h, b5⟩
end Go.Proofs.YtalfdjglbbmjcabGreatDoor

/- vellumlaw09.large, vellumlaw09.lives. -/
namespace Go.Proofs.YtalfdjglbbmjcabGreatDoor
open Go Go.RowKit Go.Lib
set_option linter.unusedVariables false

/-- How large a list of cells is. -/
def larC (E : List C5) : Int := (E.map fun e => 1 + (e.2.1.size : Int) + 10 * e.2.2.2.length).sum
theorem larC_append (E F : List C5) : larC (E ++ F) = larC E + larC F := by unfold larC; rw [List.map_append, List.sum_append]
theorem larC_one (e : C5) : larC [e] = 1 + (e.2.1.size : Int) + 10 * e.2.2.2.length := by simp [larC]
theorem larC_cons (e : C5) (r : List C5) : larC (e :: r) = 1 + (e.2.1.size : Int) + 10 * e.2.2.2.length + larC r := by simp [larC]
theorem larC_len : ∀ (E : List C5), (E.length : Int) ≤ larC E
  | [] => by simp [larC]
  | e :: r => by
    have := larC_len r
    rw [larC_cons, List.length_cons]
    omega
theorem larC_mem {e : C5} : ∀ {E : List C5}, e ∈ E → 1 + (e.2.1.size : Int) + 10 * e.2.2.2.length ≤ larC E
  | x :: r, h => by
    have h0 := larC_len r
    rw [larC_cons]
    rcases List.mem_cons.1 h with rfl | h
    · omega
    · have := larC_mem h; omega
theorem opOf_t (e : C5) : (opOf e).t.size ≤ 4 + e.2.1.size := by
  obtain ⟨k, t, v, A⟩ := e
  unfold opOf
  split
  · show t.size ≤ 4 + t.size; omega
  · have := enc_le4 ((Int.toNat k : Nat) : Int)
    show (⟨(enc k.toNat).toArray⟩ : ByteArray).size ≤ _
    have e2 : (⟨(enc k.toNat).toArray⟩ : ByteArray).size = (enc k.toNat).length := by simp [ByteArray.size]
    rw [e2]
    unfold enc
    omega
theorem larC_txt : ∀ (E : List C5), (txtS (E.map opOf) : Int) ≤ 4 * larC E
  | [] => by simp [larC, txtS]
  | e :: r => by
    have h := larC_txt r
    have h2 := opOf_t e
    rw [List.map_cons, txtS_cons, larC_cons]
    omega
theorem lightC {E : List C5} (h : decide (20000 < larC E) = false) : txtS (E.map opOf) ≤ 80000 ∧ E.length ≤ 20000 ∧ ∀ e ∈ E, e.2.2.2.length ≤ 2000 ∧ e.2.1.size ≤ 20000 := by
  have h0 := of_decide_eq_false h
  have h1 := larC_txt E
  have h2 := larC_len E
  refine ⟨by omega, by omega, fun e he => ?_⟩
  have := larC_mem he
  omega
set_option maxHeartbeats 2000000 in
set_option maxRecDepth 100000 in
theorem large9_any (v : Value) (D0 : List CV) (E : List C5) (w : World) (hrow : RowC w v D0) (hre : Are w D0 E) (hF : ∀ e ∈ E, e.2.1.size ≤ 1048576 ∧ e.2.2.2.length ≤ 1048576) (hl : E.length ≤ 1048576) :
    Calls Tryz.prog 8 #[v] w fun r w' => r = .returned (.bool (decide (20000 < larC E))) ∧ Below w.heap.size w w' := by
  have hDE := forall2_len hre
  obtain ⟨n, hn⟩ : ∃ n, D0.length = n := ⟨_, rfl⟩
  obtain ⟨p, cap, rfl, hcap, hnz, hc⟩ := hrow
  have HC : Hid (D0 ≠ [] → ∃ b off, p = some ⟨b, off, none⟩ ∧ InC w b off D0) := hc
  have HN : Hid (D0.length = n ∧ E.length = n) := ⟨hn, by rw [← hDE, hn]⟩
  have hl : n ≤ 1048576 := by rw [← hn, hDE]; exact hl
  have HF : Hid (∀ e ∈ E, e.2.1.size ≤ 1048576 ∧ e.2.2.2.length ≤ 1048576) := hF
  have HE : Hid (∀ (k : Nat) (d : CV), D0[k]? = some d → ∃ e : C5, E[k]? = some e ∧ d.2.1 = e.2.1 ∧ d.2.2.2.2.1 = e.2.2.2.length) := fun k d h => by
    obtain ⟨y, hy, r⟩ := forall2_get hre k d h
    obtain ⟨q, c, e1, _⟩ := r.2.2.2.row.val
    refine ⟨y, hy, r.2.1, ?_⟩
    simp only [slV, Value.slice.injEq] at e1
    exact e1.2.1
  rw [hn] at hcap ⊢
  clear hc hn hDE hre hnz hF
  go_enter Tryz.func8, Tryz.ntmps8
  go_wp2
  go_loopw [3, 8] (fun s i wr => ∃ (k : Nat) (z : Int), k ≤ n ∧ i = .int .i64 k ∧ s = .int .i64 z ∧ 0 ≤ z ∧ z ≤ 20000000 * k ∧ Hid (larC (E.take k) = z) ∧ Below w.heap.size w wr) (fun _ i _ => n - (RowKit.intOf i).toNat)
  case atStart => exact ⟨0, 0, Nat.zero_le _, rfl, rfl, by omega, by omega, by show larC (E.take 0) = 0; simp [larC], Below.refl _ _⟩
  case round =>
    obtain ⟨k, z, hk, rfl, rfl, hz0, hz1, HZ, hbw⟩ := hrel
    by_cases hlt : k < n
    · have hltI : (k : Int) < n := by omega
      obtain ⟨d, hd⟩ : ∃ d, D0[k]? = some d := ⟨_, List.getElem?_eq_getElem (by rw [HN.out.1]; exact hlt)⟩
      obtain ⟨e, he, het, hel⟩ := HE.out k d hd
      obtain ⟨b, off, rfl, hin⟩ := HC.out (by intro e; rw [e] at hd; simp at hd)
      obtain ⟨x0, x1, x2, x3, x4, x5⟩ := cellsC_get D0 k d hd
      have c0 := (hin.below hbw) _ _ x0
      have c1 := (hin.below hbw) _ _ x1
      have c2 := (hin.below hbw) _ _ x2
      have c3 := (hin.below hbw) _ _ x3
      have c4 := (hin.below hbw) _ _ x4
      have c5 := (hin.below hbw) _ _ x5
      simp only [← Nat.add_assoc] at c0 c1 c2 c3 c4 c5
      have hfe := HF.out e (List.mem_of_getElem? he)
      have hT1 := hfe.1
      have hT2 := hfe.2
      have HS : Hid (larC (E.take (k + 1)) = z + (1 + (e.2.1.size : Int) + 10 * e.2.2.2.length)) := by
        show _ = _
        rw [List.take_add_one, he, Option.toList_some, larC_append, larC_one, HZ.out]
      clear hd he hin HZ hfe x0 x1 x2 x3 x4 x5
      obtain ⟨dk, dt, ⟨dx, dn, du⟩, ds⟩ := d
      obtain ⟨dp, dl, dcap⟩ := ds
      simp only at het hel
      rw [← het, ← hel] at HS
      rw [← het] at hT1
      rw [← hel] at hT2
      clear het hel
      simp only [slV] at c0 c1 c2 c3 c4 c5
      obtain ⟨s, hs⟩ : ∃ s : Int, (dt.size : Int) = s := ⟨_, rfl⟩
      obtain ⟨L, hL⟩ : ∃ s : Int, (dl : Int) = s := ⟨_, rfl⟩
      have hs1 : 0 ≤ s ∧ s ≤ 1048576 := by omega
      have hL1 : 0 ≤ L ∧ L ≤ 1048576 := by omega
      obtain ⟨hs1, hs2⟩ := hs1
      obtain ⟨hL1, hL2⟩ := hL1
      rw [hs, hL] at HS
      have hk2 : (k : Int) ≤ 1048576 := by omega
      go_wp2
      go_roundw
      case rel => exact ⟨k + 1, z + (1 + s + 10 * L), by omega, by go_num, rfl, by omega, by omega, HS.out, hbw.alloc hbw.size _⟩
      case measure => simp [RowKit.intOf]; omega
    · have hltI : ¬ (k : Int) < n := by omega
      have hE : E.take k = E := List.take_of_length_le (by rw [HN.out.2]; omega)
      rw [hE] at HZ
      go_wp2
      go_ret
      exact ⟨by rw [HZ.out]; rfl, hbw⟩
/-- A cell without attributes, as it lies in memory. -/
abbrev cvN (e : C5) : CV := (e.1, e.2.1, e.2.2.1, (none, 0, 0))
theorem rowC_blk {w : World} {b : Nat} {D : List CV} (h : w.heap[b]? = some (.cells (cellsC D).toArray 30 (0, 0))) : RowC w (.slice (some ⟨b, 0, none⟩) D.length D.length) D := by
  refine ⟨some ⟨b, 0, none⟩, D.length, rfl, Nat.le_refl _, fun h => (by cases h), fun _ => ⟨b, 0, rfl, fun j u hu => ?_⟩⟩
  rw [Nat.zero_add, cell_of_heap h, List.getElem?_toArray]
  exact hu
theorem areN (w : World) : ∀ (E : List C5), (∀ e ∈ E, e.2.2.2 = []) → Are w (E.map cvN) E
  | [], _ => .nil
  | e :: r, h => by
    refine .cons ⟨rfl, rfl, rfl, ?_⟩ (areN w r fun x hx => h x (List.mem_cons_of_mem _ hx))
    rw [h e (List.mem_cons_self ..)]
    exact RN.nil w
def live9 : List C5 := [(97, ⟨#[]⟩, z0, []), (98, ⟨#[]⟩, z0, []), (-1, ⟨#[105, 109, 97, 103, 101]⟩, z0, [])]
def live9o : List Op5 := [txtO ⟨#[97, 98]⟩, ⟨2, ⟨#[105, 109, 97, 103, 101]⟩, z0, 0, []⟩]
theorem live9_ok : celP live9 = (0, 0) := by kernel_rfl
theorem live9_doc : docOf live9 = live9o := by kernel_rfl
theorem live9_nil : ∀ e ∈ live9, e.2.2.2 = [] := by
  intro e he
  simp only [live9, List.mem_cons, List.not_mem_nil, or_false] at he
  rcases he with rfl | rfl | rfl <;> rfl
theorem live9_fit : ∀ e ∈ live9, FitC e := by
  intro e he
  have hA := live9_nil e he
  refine ⟨?_, ?_, fun q hq => (by rw [hA] at hq; cases hq), by rw [hA]; simp⟩
  all_goals
    simp only [live9, List.mem_cons, List.not_mem_nil, or_false] at he
    rcases he with rfl | rfl | rfl <;> decide
theorem live9o_nil : ∀ o ∈ live9o, o.A = [] := by
  intro o ho
  simp only [live9o, List.mem_cons, List.not_mem_nil, or_false] at ho
  rcases ho with rfl | rfl <;> rfl
theorem live9o_okR : OkR live9o := ⟨fun o ho => by rw [live9o_nil o ho]; simp, by decide⟩
theorem live9o_good : ∀ o ∈ live9o, opE o = 0 := by
  intro o ho
  simp only [live9o, List.mem_cons, List.not_mem_nil, or_false] at ho
  rcases ho with rfl | rfl <;> kernel_rfl
set_option maxHeartbeats 2000000 in
set_option maxRecDepth 100000 in
theorem lives9_any {I : List Nat} {a : Nat → Addr} (w : World) (hI : ∀ i ∈ IxO, i ∈ I) (hS : Std I a w) :
    Calls Tryz.prog 7 #[] w fun r w' => r = .returned (.bool true) ∧ Below w.heap.size w w' := by
  have CO : Hid (∀ W b, Below w.heap.size w W → W.heap[b]? = some (.cells (cellsC (live9.map cvN)).toArray 30 (0, 0)) → Calls Tryz.prog 13 #[.slice (some ⟨b, 0, none⟩) 3 3] W fun r w' => ∃ dv, r = .returned (.tuple #[dv, .int .i64 0, .nilIface]) ∧ (∃ q, dv = .pointer (some ⟨q, 0, none⟩)) ∧ DelV w' W.heap.size W.heap.size dv live9o ∧ Below W.heap.size W w') := fun W b hW hb => by
    refine (ofC_any _ (live9.map cvN) live9 W hI (hS.below hW) (rowC_blk hb) (areN W live9 live9_nil) live9_fit (by decide) (by decide)).mono ?_
    rintro r w' ⟨dv, h1, h2, _, h4⟩
    rw [live9_ok] at h1 h2
    rw [live9_doc] at h2
    have h5 := h2 rfl
    obtain ⟨q, pv, PL, e, _⟩ := id h5
    exact ⟨dv, h1, ⟨q, e⟩, h5, h4⟩
  have CI : Hid (∀ W b dv B1 B2, DelV W B1 B2 dv live9o → W.heap[b]? = some (.cells (cellsO (live9o.map ovN)).toArray 69 (0, 0)) → Calls Tryz.prog 18 #[dv, .slice (some ⟨b, 0, none⟩) 2 2] W fun r w' => r = .returned (.bool true) ∧ Below W.heap.size W w') := fun W b dv B1 B2 h hb => by
    have := is_any dv (.slice (some ⟨b, 0, none⟩) 2 2) live9o live9o W h live9o_good live9o_okR (re_blk hb live9o_nil) live9o_okR
    rw [decide_eq_true rfl] at this
    exact this
  clear hS hI
  go_enter Tryz.func7, Tryz.ntmps7
  have b0 := (Below.refl w.heap.size w).alloc (Nat.le_refl _) (.cells (cellsC (live9.map cvN)).toArray 30)
  go_wp2_with fail
  refine (CO.out _ _ b0 (heap_alloc_new w _)).mono ?_; rintro r w5 ⟨dv, rfl, ⟨q, rfl⟩, hd5, hb5⟩
  have b5 := b0.trans (hb5.mono b0.size)
  have HD5 : Hid (∃ B1 B2, DelV w5 B1 B2 (.pointer (some ⟨q, 0, none⟩)) live9o) := ⟨_, _, hd5⟩
  clear hb5 hd5 CO b0
  obtain ⟨B1, B2, hd7⟩ := HD5.out
  have HD : Hid (DelV w5 B1 B2 (.pointer (some ⟨q, 0, none⟩)) live9o) := hd7
  clear hd7 HD5
  go_wp2_with fail
  refine (CI.out _ _ _ B1 B2 (HD.out.below ((Below.refl _ _).alloc (Nat.le_refl _) _)) (heap_alloc_new w5 _)).mono ?_; rintro r w8 ⟨rfl, hb8⟩
  have b8 := (b5.alloc b5.size _).trans (hb8.mono (Nat.le_trans b5.size (by rw [World.size_alloc]; omega)))
  clear hb8 b5 CI HD
  go_wp2
  go_ret
  exact ⟨rfl, b8⟩
end Go.Proofs.YtalfdjglbbmjcabGreatDoor

/- vellumhand.Ops: operations as new memory, with spare room. -/
namespace Go.Proofs.YtalfdjglbbmjcabGreatDoor
open Go Go.RowKit Go.Lib
set_option linter.unusedVariables false

abbrev d78 : OV := (78, ⟨#[]⟩, z0, 0, (none, 0, 0))
theorem HandO.val {w : World} {lo hi : Nat} {v : Value} {A : List A2} (h : HandO w lo hi v A) : ∃ p l c, v = .slice p l c := by
  rcases h with ⟨_, h⟩ | ⟨g, c, _, h, _⟩
  · exact ⟨_, _, _, h⟩
  · exact ⟨_, _, _, h⟩
theorem HandO.keep {w w' : World} {lo hi hi' : Nat} {v : Value} {A : List A2} (h : HandO w lo hi v A) (b : KeepA w w') (hh : hi ≤ hi') : HandO w' lo hi' v A := by
  rcases h with h | ⟨g, c, h1, h2, h3, h4⟩
  · exact Or.inl h
  · exact Or.inr ⟨g, c, h1, h2, by omega, keepA_own h4 b⟩
theorem HandO.upto {w w' : World} {lo hi hi' : Nat} {v : Value} {A : List A2} (h : HandO w lo hi v A) (b : Below hi w w') (hh : hi ≤ hi') : HandO w' lo hi' v A := by
  rcases h with h | ⟨g, c, h1, h2, h3, h4⟩
  · exact Or.inl h
  · exact Or.inr ⟨g, c, h1, h2, by omega, owns_same h4 fun k hk => b.block k (by simp only [Value.ownBlock, Option.some.injEq] at hk; omega)⟩
theorem HandO.setBelow {w : World} {lo hi : Nat} {v : Value} {A : List A2} (h : HandO w lo hi v A) {g : Nat} (hg : g < lo) (j : Nat) (u : Value) : HandO (w.setCell ⟨g, j, none⟩ u) lo hi v A := by
  rcases h with h | ⟨g', c, h1, h2, h3, h4⟩
  · exact Or.inl h
  · exact Or.inr ⟨g', c, h1, h2, h3, ownsRow_setCell_below h4 (a := ⟨g, j, none⟩) hg u⟩
theorem HandO.lower {w : World} {lo lo' hi : Nat} {v : Value} {A : List A2} (h : HandO w lo hi v A) (hh : lo' ≤ lo) : HandO w lo' hi v A := by
  rcases h with h | ⟨g', c, h1, h2, h3, h4⟩
  · exact Or.inl h
  · exact Or.inr ⟨g', c, h1, h2, h3, own_weaken h4 hh⟩
theorem HandO.RN {w : World} {lo hi : Nat} {v : Value} {A : List A2} (h : HandO w lo hi v A) : RN w v A := ⟨h.hand.2.1, h.hand.1⟩
/-- What an operation in memory is, its list with spare room. -/
def HandD (w : World) (lo hi : Nat) (D : List OV) (E : List Op5) : Prop := All2 (fun (d : OV) (e : Op5) => d.1 = e.k ∧ d.2.1 = e.t ∧ d.2.2.1 = e.v ∧ d.2.2.2.1 = e.c ∧ HandO w lo hi (slV d.2.2.2.2) e.A) D E
theorem HandD.upto {w w' : World} {lo hi hi' : Nat} {D : List OV} {E : List Op5} (h : HandD w lo hi D E) (b : Below hi w w') (hh : hi ≤ hi') : HandD w' lo hi' D E := All2.imp (fun d e h => ⟨h.1, h.2.1, h.2.2.1, h.2.2.2.1, h.2.2.2.2.upto b hh⟩) h
theorem HandD.keep {w w' : World} {lo hi hi' : Nat} {D : List OV} {E : List Op5} (h : HandD w lo hi D E) (b : KeepA w w') (hh : hi ≤ hi') : HandD w' lo hi' D E := All2.imp (fun d e h => ⟨h.1, h.2.1, h.2.2.1, h.2.2.2.1, h.2.2.2.2.keep b hh⟩) h
theorem HandD.below {w w' : World} {lo hi hi' : Nat} {D : List OV} {E : List Op5} (h : HandD w lo hi D E) (b : Below w.heap.size w w') (hh : hi ≤ hi') : HandD w' lo hi' D E := h.keep (keepA_below b) hh
theorem HandD.re {w : World} {lo hi : Nat} {D : List OV} {E : List Op5} (h : HandD w lo hi D E) : ReD w D E := All2.imp (fun d e h => ⟨h.1, h.2.1, h.2.2.1, h.2.2.2.1, h.2.2.2.2.RN⟩) h
theorem handD_snoc {w : World} {lo hi : Nat} {D : List OV} {E : List Op5} {d : OV} {e : Op5} (h : HandD w lo hi D E) (h1 : d.1 = e.k ∧ d.2.1 = e.t ∧ d.2.2.1 = e.v ∧ d.2.2.2.1 = e.c ∧ HandO w lo hi (slV d.2.2.2.2) e.A) : HandD w lo hi (D ++ [d]) (E ++ [e]) :=
  forall2_append h (.cons h1 .nil)
/-- Operations with spare room behind them, the call's own. -/
def HandL (w : World) (lo hi : Nat) (v : Value) (E : List Op5) : Prop :=
  ∃ g c D, v = .slice (some ⟨g, 0, none⟩) E.length c ∧ lo ≤ g ∧ g < hi ∧ D.length = E.length ∧ OwnO w lo (.slice (some ⟨g, 0, none⟩) (D ++ [d77, d78]).length c) (D ++ [d77, d78]) ∧ HandD w lo hi D E
theorem HandL.below {w w' : World} {lo hi : Nat} {v : Value} {E : List Op5} (h : HandL w lo hi v E) (b : Below w.heap.size w w') : HandL w' lo hi v E := by
  obtain ⟨g, c, D, h1, h2, h3, h4, h5, h6⟩ := h
  exact ⟨g, c, D, h1, h2, h3, h4, owns_below h5 b, h6.below b (Nat.le_refl _)⟩
theorem HandL.re {w : World} {lo hi : Nat} {v : Value} {E : List Op5} (h : HandL w lo hi v E) : ReO w v E := by
  obtain ⟨g, c, D, rfl, h2, h3, h4, h5, h6⟩ := h
  refine ⟨D, ?_, h6.re⟩
  obtain ⟨p, c', he, hc, hn, hr⟩ := own_rowO h5
  simp only [Value.slice.injEq] at he
  obtain ⟨rfl, -, rfl⟩ := he
  refine ⟨_, _, by rw [h4], by simp at hc; omega, hn, fun j x hx => hr j x ?_⟩
  rw [List.getElem?_append_left (List.getElem?_eq_some_iff.1 hx).1]; exact hx
/-- append(own, two operations). -/
theorem wpList_append_op2 {w : World} {ops : Array Oper} {rest : List Oper} {o : Oper} {a : Act} {Q : Exit → Act → World → Prop} (hgd : o.guard = none) (s x : Operand)
    (ho : o.op = .call { callee := .builtin .append, args := #[s, x], argTypes := #[39, 39] })
    (base : Nat) (v : Value) (L : List OV) (hs : a.eval s = v) (hown : OwnO w base v L)
    (b c : Nat) (d e : OV) (hx : a.eval x = .slice (some ⟨b, 0, none⟩) 2 c) (hM : OpAt w b 0 d) (hM2 : OpAt w b 7 e)
    (h63 : L.length ≤ 33554432) (hbase : base ≤ w.heap.size)
    (h : ∀ v' w', OwnO w' base v' (L ++ [d, e]) → w.grownBy w' v.ownBlock → (v'.ownBlock = v.ownBlock ∨ v'.ownBlock = some w.heap.size) → wpList Tryz.prog ops Q rest (a.put o.dst v') w') : wpList Tryz.prog ops Q (o :: rest) a w := by
  obtain ⟨i, z, hi, hz, hz1, hz2, hz3⟩ := infoOp
  refine wpList_append_own_at _ hgd s x _ ho base 69 i z 7 88 Tryz.underlying39 hi hz hz1 hz2 hz3 (by decide) v L.length (cellsO L) hs hown ⟨b, 0, none⟩ 2 c (cellsO [d, e]) hx (by rw [cellsO_len]; rfl) (fun j y hj => ?_) (cellsO_one _) (by unfold maxLen; omega) (by omega) hbase (fun v' w' h1 h2 _ h3 => ?_)
  · rw [Addr.add_lit, Nat.zero_add]
    obtain ⟨h0, h1, h2, h3, h4, h5, h6⟩ := hM
    obtain ⟨k0, k1, k2, k3, k4, k5, k6⟩ := hM2
    simp only [Nat.zero_add] at h0 h1 h2 h3 h4 h5 h6
    match j, hj with
    | 0, hj => simp [cellsO] at hj; rw [← hj]; exact h0
    | 1, hj => simp [cellsO] at hj; rw [← hj]; exact h1
    | 2, hj => simp [cellsO] at hj; rw [← hj]; exact h2
    | 3, hj => simp [cellsO] at hj; rw [← hj]; exact h3
    | 4, hj => simp [cellsO] at hj; rw [← hj]; exact h4
    | 5, hj => simp [cellsO] at hj; rw [← hj]; exact h5
    | 6, hj => simp [cellsO] at hj; rw [← hj]; exact h6
    | 7, hj => simp [cellsO] at hj; rw [← hj]; exact k0
    | 8, hj => simp [cellsO] at hj; rw [← hj]; exact k1
    | 9, hj => simp [cellsO] at hj; rw [← hj]; exact k2
    | 10, hj => simp [cellsO] at hj; rw [← hj]; exact k3
    | 11, hj => simp [cellsO] at hj; rw [← hj]; exact k4
    | 12, hj => simp [cellsO] at hj; rw [← hj]; exact k5
    | 13, hj => simp [cellsO] at hj; rw [← hj]; exact k6
    | j + 14, hj => simp [cellsO] at hj
  · refine h v' w' ?_ h2 ?_
    · show w'.ownsRow _ _ _ _ _ _
      rw [cellsO_append, List.length_append]
      exact h1
    · exact h3
end Go.Proofs.YtalfdjglbbmjcabGreatDoor

/- The errors' numbers: what vellumnum.list and vellumnum.Num answer where all nineteen sentinels lie as laid. -/
namespace Go.Proofs.YtalfdjglbbmjcabGreatDoor
open Go Go.RowKit
set_option linter.unusedVariables false

/-- All nineteen. -/
def all19 : List Nat := List.range 19
abbrev Sent (a : Nat → Addr) (w : World) : Prop := Er all19 a w
theorem in19 {i : Nat} (h : i < 19) : i ∈ all19 := List.mem_range.2 h
def errA (a : Nat → Addr) : Array Value := #[errV a 0, errV a 1, errV a 2, errV a 3, errV a 4, errV a 5, errV a 6, errV a 7, errV a 8, errV a 9, errV a 10, errV a 11, errV a 12, errV a 13, errV a 14, errV a 15, errV a 16, errV a 17, errV a 18]

theorem wl_build (a : Nat → Addr) {ops : Array Oper} {rest : List Oper} {o : Oper} {A : Act} {w : World} {Q : Exit → Act → World → Prop} (hg : o.guard = none) (parts : Array (Nat × Operand)) (ho : o.op = .build 71 parts)
    (hp : (parts.map fun (i, x) => (i, A.eval x)) = #[(0, errV a 0), (1, errV a 1), (2, errV a 2), (3, errV a 3), (4, errV a 4), (5, errV a 5), (6, errV a 6), (7, errV a 7), (8, errV a 8), (9, errV a 9), (10, errV a 10), (11, errV a 11), (12, errV a 12), (13, errV a 13), (14, errV a 14), (15, errV a 15), (16, errV a 16), (17, errV a 17), (18, errV a 18)])
    (h : wpList Tryz.prog ops Q rest (A.put o.dst (.agg (errA a))) w) : wpList Tryz.prog ops Q (o :: rest) A w := by
  have hb : Tryz.prog.built 71 (parts.map fun (i, x) => (i, A.eval x)).toList = some (errA a) := by rw [hp]; kernel_rfl
  refine wpList_build hg 71 parts ho (by rw [hb]; rfl) ?_
  rw [hb]; exact h

theorem alloc_setRow (w : World) (old cs : Array Value) (t : TypeId) : (w.alloc (.cells old t)).setRow w.heap.size cs = w.alloc (.cells cs t) := by
  have : ((w.heap.push (.cells old t)).modify w.heap.size fun | .cells _ t f => .cells cs t f | o => o) = w.heap.push (.cells cs t) := by
    apply Array.ext
    · simp
    · intro i h1 h2
      rw [Array.getElem_modify]
      by_cases hi : w.heap.size = i
      · subst hi; simp
      · rw [if_neg hi]
        have : i < w.heap.size := by simp at h2; omega
        simp [Array.getElem_push, this]
  show { w with heap := (w.heap.push (.cells old t)).modify w.heap.size _ } = { w with heap := w.heap.push _ }
  rw [← this]; rfl

theorem wl_store (a : Nat → Addr) {ops : Array Oper} {rest : List Oper} {o : Oper} {A : Act} {w : World} {Q : Exit → Act → World → Prop} {old : Array Value} (hg : o.guard = none) (x y : Operand) (ho : o.op = .store 71 x y)
    (hx : A.eval x = .pointer (some ⟨w.heap.size, 0, none⟩)) (hy : A.eval y = .agg (errA a)) (hold : old.size = 19)
    (h : wpList Tryz.prog ops Q rest (A.put o.dst undef) (w.alloc (.cells (errA a) 71))) : wpList Tryz.prog ops Q (o :: rest) A (w.alloc (.cells old 71)) := by
  refine wpList_store_row hg 71 x y ho w.heap.size (errA a) hx hy 71 old (by show (w.heap.push _)[w.heap.size]? = _; simp) (by kernel_rfl) (by rw [hold]; rfl) (by kernel_rfl) ?_
  rw [alloc_setRow]; exact h

set_option maxHeartbeats 400000 in
set_option maxRecDepth 100000 in
theorem list_any (a : Nat → Addr) (w : World) (h : ∀ i, i < 19 → w.cell? ⟨[2, 3, 4, 5, 6, 7, 8, 9, 1, 10, 11, 0, 12, 13, 14, 15, 16, 17, 18].getD i 0, 0, none⟩ = some (errV a i)) :
    Calls Tryz.prog 35 #[] w fun e w' => e = .returned (.agg (errA a)) ∧ Below w.heap.size w w' := by
  have h0 : w.cell? ⟨2, 0, none⟩ = some (errV a 0) := h 0 (by omega)
  have h1 : w.cell? ⟨3, 0, none⟩ = some (errV a 1) := h 1 (by omega)
  have h2 : w.cell? ⟨4, 0, none⟩ = some (errV a 2) := h 2 (by omega)
  have h3 : w.cell? ⟨5, 0, none⟩ = some (errV a 3) := h 3 (by omega)
  have h4 : w.cell? ⟨6, 0, none⟩ = some (errV a 4) := h 4 (by omega)
  have h5 : w.cell? ⟨7, 0, none⟩ = some (errV a 5) := h 5 (by omega)
  have h6 : w.cell? ⟨8, 0, none⟩ = some (errV a 6) := h 6 (by omega)
  have h7 : w.cell? ⟨9, 0, none⟩ = some (errV a 7) := h 7 (by omega)
  have h8 : w.cell? ⟨1, 0, none⟩ = some (errV a 8) := h 8 (by omega)
  have h9 : w.cell? ⟨10, 0, none⟩ = some (errV a 9) := h 9 (by omega)
  have h10 : w.cell? ⟨11, 0, none⟩ = some (errV a 10) := h 10 (by omega)
  have h11 : w.cell? ⟨0, 0, none⟩ = some (errV a 11) := h 11 (by omega)
  have h12 : w.cell? ⟨12, 0, none⟩ = some (errV a 12) := h 12 (by omega)
  have h13 : w.cell? ⟨13, 0, none⟩ = some (errV a 13) := h 13 (by omega)
  have h14 : w.cell? ⟨14, 0, none⟩ = some (errV a 14) := h 14 (by omega)
  have h15 : w.cell? ⟨15, 0, none⟩ = some (errV a 15) := h 15 (by omega)
  have h16 : w.cell? ⟨16, 0, none⟩ = some (errV a 16) := h 16 (by omega)
  have h17 : w.cell? ⟨17, 0, none⟩ = some (errV a 17) := h 17 (by omega)
  have h18 : w.cell? ⟨18, 0, none⟩ = some (errV a 18) := h 18 (by omega)
  have z0 : 2 < w.heap.size := lt_of_cell h0
  have z1 : 3 < w.heap.size := lt_of_cell h1
  have z2 : 4 < w.heap.size := lt_of_cell h2
  have z3 : 5 < w.heap.size := lt_of_cell h3
  have z4 : 6 < w.heap.size := lt_of_cell h4
  have z5 : 7 < w.heap.size := lt_of_cell h5
  have z6 : 8 < w.heap.size := lt_of_cell h6
  have z7 : 9 < w.heap.size := lt_of_cell h7
  have z8 : 1 < w.heap.size := lt_of_cell h8
  have z9 : 10 < w.heap.size := lt_of_cell h9
  have z10 : 11 < w.heap.size := lt_of_cell h10
  have z11 : 0 < w.heap.size := lt_of_cell h11
  have z12 : 12 < w.heap.size := lt_of_cell h12
  have z13 : 13 < w.heap.size := lt_of_cell h13
  have z14 : 14 < w.heap.size := lt_of_cell h14
  have z15 : 15 < w.heap.size := lt_of_cell h15
  have z16 : 16 < w.heap.size := lt_of_cell h16
  have z17 : 17 < w.heap.size := lt_of_cell h17
  have z18 : 18 < w.heap.size := lt_of_cell h18
  clear h
  go_enter Tryz.func35, Tryz.ntmps35
  go_wp2_with (first | (refine wl_build a rfl _ rfl (by kernel_rfl) ?_) | (refine wl_store a rfl _ _ rfl (by kernel_rfl) (by kernel_rfl) (by kernel_rfl) ?_))
  have hl := run_loadVar_new (P := Tryz.prog) w 71 (errA a) 19 33 Tryz.underlying71 (by kernel_rfl)
  refine bodyPost_ret (v := .agg (errA a)) ?_ rfl ⟨rfl, (Below.refl _ _).alloc (Nat.le_refl _) _⟩
  simp only [results, Tryz.results35]
  simp [asAddr, Act.put, hl]

theorem errA_get (a : Nat → Addr) (k : Nat) (hk : k < 19) : (errA a)[k]? = some (errV a k) := by
  have e : errA a = ((List.range 19).map (errV a)).toArray := rfl
  rw [e]
  simp [hk]

theorem index_arr {A : Array Value} {k : Nat} {v : Value} (hk : k < 19) (hA : A[k]? = some v) (w : World) : (Instr.index 71 (.agg A) (.int .i64 k)).run Tryz.prog w = .ok v w := by
  obtain ⟨i, hi, hs⟩ := Option.map_eq_some_iff.1 (show (Tryz.prog.info? 33).map (·.size) = some 1 by kernel_rfl)
  have hk2 : (0 : Int) ≤ k ∧ (k : Int) < 19 := by omega
  simp [Instr.index, run_underlying Tryz.underlying71, asIntOf, hk2, sizeOf, typeInfo, hi, hs, part, hA]
  omega

theorem num_nil (w : World) : Calls Tryz.prog 10 #[.nilIface] w fun e w' => e = .returned (.int .i64 0) ∧ w' = w := by
  go_enter Tryz.func10, Tryz.ntmps10
  go_wp2
  go_ret
  exact ⟨rfl, rfl⟩

set_option maxHeartbeats 400000 in
theorem num_err {a : Nat → Addr} {w : World} (h : Sent a w) (n : Nat) (hn : n < 19) :
    Calls Tryz.prog 10 #[errV a n] w fun e w' => e = .returned (.int .i64 (n + 1)) ∧ Below w.heap.size w w' := by
  have hcell : ∀ i, i < 19 → w.cell? ⟨[2, 3, 4, 5, 6, 7, 8, 9, 1, 10, 11, 0, 12, 13, 14, 15, 16, 17, 18].getD i 0, 0, none⟩ = some (errV a i) := fun i hi => h.cell i (in19 hi)
  have hnil := eql_nil a n
  have hsame := eql_same a n
  obtain ⟨A, hA⟩ : ∃ A, A = errA a := ⟨_, rfl⟩
  have hAs : A.size = 19 := by rw [hA]; rfl
  have hAg : ∀ k, k < 19 → A[k]? = some (errV a k) := by rw [hA]; exact errA_get a
  go_enter Tryz.func10, Tryz.ntmps10
  go_wp2_with (go_at_call 35; refine (list_any a _ hcell).mono ?_; rintro e w1 ⟨rfl, hb⟩; have h1 := h.below hb; clear hcell h hnil; rw [← hA]; clear hA)
  go_loop [8] (fun i => ∃ k : Nat, k ≤ n ∧ i = .int .i64 k) (fun i => 19 - (intOf i).toNat)
  case atStart => exact ⟨0, Nat.zero_le _, rfl⟩
  case round =>
    obtain ⟨k, hk, rfl⟩ := hrel
    have hAk := hAg k (by omega)
    have hk9 : (k : Int) < 19 := by omega
    have hix := index_arr (A := A) (by omega : k < 19) hAk
    clear hAg hAk
    by_cases hlt : k < n
    · have he := eql_other h1 n k (in19 hn) (in19 (by omega)) (by omega)
      clear h1 hsame
      go_wp2
      go_round
      case rel => exact ⟨k + 1, by omega, by go_num⟩
      case measure => simp [intOf]; omega
    · obtain rfl : k = n := by omega
      clear h1
      go_wp2
      go_ret
      exact ⟨rfl, hb⟩

theorem num_of {a : Nat → Addr} {w : World} (h : Sent a w) (e : Nat) (he : e ≤ 19) :
    Calls Tryz.prog 10 #[errOf a e] w fun r w' => r = .returned (.int .i64 e) ∧ Below w.heap.size w w' := by
  cases e with
  | zero => exact (num_nil w).mono fun r w' ⟨h1, h2⟩ => ⟨h1, by rw [h2]; exact Below.refl _ _⟩
  | succ n => rw [errOf_succ]; exact num_err h n (by omega)
end Go.Proofs.YtalfdjglbbmjcabGreatDoor

/- vellumhand.Kept and vellumlaw03.same. -/
namespace Go.Proofs.YtalfdjglbbmjcabGreatDoor
open Go Go.RowKit Go.Lib
set_option linter.unusedVariables false

set_option maxHeartbeats 800000 in
set_option maxRecDepth 100000 in
theorem kept_any (va vb : Value) (A : List A2) (w : World) (hA : HandA w va A) (hB : RowA w vb A) (hl : A.length ≤ 1048576) :
    Calls Tryz.prog 16 #[va, vb] w fun r w' => r = .returned (.bool true) ∧ Below w.heap.size w w' := by
  have cS := refSame_any va vb A A w hA.2.1 hB (by omega) (by omega)
  simp only [decide_true] at cS
  obtain ⟨pb, cb, rfl, hcb⟩ := hB.val
  clear hB
  obtain ⟨n, hn⟩ : ∃ n, A.length = n := ⟨_, rfl⟩
  by_cases h0 : n = 0
  · subst h0
    obtain ⟨pa, ca, rfl, _⟩ := hA.2.1.val
    rw [hn] at cS ⊢
    clear hA hl hn hcb
    go_enter Tryz.func16, Tryz.ntmps16
    go_wp2_with fail
    refine cS.mono ?_; rintro r w2 ⟨rfl, hb2⟩
    go_wp2
    go_ret
    exact ⟨rfl, hb2⟩
  · have h0I : ((n : Int) == 0) = false := by simp; omega
    obtain ⟨p, c, rfl, hc, hr⟩ := hA.2.2 (fun e => h0 (by rw [← hn, e]; rfl))
    obtain ⟨p', c', e', hc', hr'⟩ := hr
    obtain ⟨b, off, hp1, h1⟩ := hr' n s1 (by rw [List.getElem?_append_right (by omega), hn]; simp)
    obtain ⟨b2, off2, hp2, h2⟩ := hr' (n + 1) s2 (by rw [List.getElem?_append_right (by omega), hn]; simp)
    simp only [Value.slice.injEq] at e'
    obtain ⟨rfl, -, rfl⟩ := e'
    subst hp1
    cases hp2
    rw [hn] at cS hl hc hcb ⊢
    have q1 := beq_key (x := ⟨#[115, 112, 97, 114, 101]⟩) (y := ⟨#[115, 112, 97, 114, 101]⟩) true (decide_eq_true rfl)
    have q2 := beq_key (x := ⟨#[114, 111, 111, 109]⟩) (y := ⟨#[114, 111, 111, 109]⟩) true (decide_eq_true rfl)
    have d1 := h1.c0
    have d2 := h2.c0
    simp only at d1 d2
    clear hA hc' hr' h0 h1 h2
    go_enter Tryz.func16, Tryz.ntmps16
    go_wp2_with fail
    refine cS.mono ?_; rintro r w2 ⟨rfl, hb2⟩
    have e1 := (hb2.cell (lt_of_cell d1)).trans d1
    have e2 := (hb2.cell (lt_of_cell d2)).trans d2
    clear d1 d2 cS hn
    go_wp2
    go_ret
    exact ⟨rfl, hb2⟩

end Go.Proofs.YtalfdjglbbmjcabGreatDoor

/- vellumhand.KeptOps: what Ops made is still what it made. -/
namespace Go.Proofs.YtalfdjglbbmjcabGreatDoor
open Go Go.RowKit Go.Lib
set_option linter.unusedVariables false
end Go.Proofs.YtalfdjglbbmjcabGreatDoor

/- vellumspare.Spoil: writes over operations and their lists, and nothing else. -/
namespace Go.Proofs.YtalfdjglbbmjcabGreatDoor
open Go Go.RowKit Go.Lib
set_option linter.unusedVariables false

theorem cell_at {w : World} {g : Nat} {cur : Array Value} {e : TypeId} (h : w.heap[g]? = some (.cells cur e (0, 0))) (j : Nat) (hj : j < cur.size) : ∃ u, w.cell? ⟨g, j, none⟩ = some u :=
  ⟨cur[j], by simp [World.cell?, h, hj]⟩
theorem out_set4 {lo hi : Nat} {w W : World} (h : Out lo hi w W) {g : Nat} (h1 : lo ≤ g) (h2 : g < hi) (a b c d : Nat) (u0 u1 u2 u3 : Value) :
    Out lo hi w ((((W.setCell ⟨g, a, none⟩ u0).setCell ⟨g, b, none⟩ u1).setCell ⟨g, c, none⟩ u2).setCell ⟨g, d, none⟩ u3) :=
  (((h.setCell g a u0 h1 h2).setCell g b u1 h1 h2).setCell g c u2 h1 h2).setCell g d u3 h1 h2
theorem set4_other (W : World) {g k : Nat} (hk : k ≠ g) (a b c d i : Nat) (u0 u1 u2 u3 : Value) :
    ((((W.setCell ⟨g, a, none⟩ u0).setCell ⟨g, b, none⟩ u1).setCell ⟨g, c, none⟩ u2).setCell ⟨g, d, none⟩ u3).cell? ⟨k, i, none⟩ = W.cell? ⟨k, i, none⟩ := by
  refine World.cell?_of_block (a := ⟨k, i, none⟩) ?_
  have h : ∀ (W : World) (j : Nat) (v : Value), (W.setCell ⟨g, j, none⟩ v).heap[k]? = W.heap[k]? := fun W j v => Below.heap_setCell _ _ _ _ hk
  rw [h, h, h, h]

theorem out_set7 {lo hi : Nat} {w W : World} (h : Out lo hi w W) {g : Nat} (h1 : lo ≤ g) (h2 : g < hi) (o : Nat) (u0 u1 u2 u3 u4 u5 u6 : Value) :
    Out lo hi w (((((((W.setCell ⟨g, o, none⟩ u0).setCell ⟨g, o + 1, none⟩ u1).setCell ⟨g, o + 2, none⟩ u2).setCell ⟨g, o + 3, none⟩ u3).setCell ⟨g, o + 4, none⟩ u4).setCell ⟨g, o + 5, none⟩ u5).setCell ⟨g, o + 6, none⟩ u6) :=
  ((((((h.setCell g _ u0 h1 h2).setCell g _ u1 h1 h2).setCell g _ u2 h1 h2).setCell g _ u3 h1 h2).setCell g _ u4 h1 h2).setCell g _ u5 h1 h2).setCell g _ u6 h1 h2
theorem set7_far (W : World) {g o i : Nat} (hi : o + 7 ≤ i) (u0 u1 u2 u3 u4 u5 u6 : Value) :
    (((((((W.setCell ⟨g, o, none⟩ u0).setCell ⟨g, o + 1, none⟩ u1).setCell ⟨g, o + 2, none⟩ u2).setCell ⟨g, o + 3, none⟩ u3).setCell ⟨g, o + 4, none⟩ u4).setCell ⟨g, o + 5, none⟩ u5).setCell ⟨g, o + 6, none⟩ u6).cell? ⟨g, i, none⟩ = W.cell? ⟨g, i, none⟩ := by
  have h : ∀ (W : World) (j : Nat) (v : Value), j < i → (W.setCell ⟨g, j, none⟩ v).cell? ⟨g, i, none⟩ = W.cell? ⟨g, i, none⟩ := fun W j v hj => World.cell?_setCell_other _ _ _ _ (fun e => by cases e; omega)
  rw [h _ _ _ (by omega), h _ _ _ (by omega), h _ _ _ (by omega), h _ _ _ (by omega), h _ _ _ (by omega), h _ _ _ (by omega), h _ _ _ (by omega)]
theorem OpAt.far (W : World) {g o j : Nat} {d : OV} (h : OpAt W g j d) (hi : o + 7 ≤ j) (u0 u1 u2 u3 u4 u5 u6 : Value) :
    OpAt (((((((W.setCell ⟨g, o, none⟩ u0).setCell ⟨g, o + 1, none⟩ u1).setCell ⟨g, o + 2, none⟩ u2).setCell ⟨g, o + 3, none⟩ u3).setCell ⟨g, o + 4, none⟩ u4).setCell ⟨g, o + 5, none⟩ u5).setCell ⟨g, o + 6, none⟩ u6) g j d :=
  ⟨(set7_far W (by omega) ..).trans h.c0, (set7_far W (by omega) ..).trans h.c1, (set7_far W (by omega) ..).trans h.c2, (set7_far W (by omega) ..).trans h.c3, (set7_far W (by omega) ..).trans h.c4, (set7_far W (by omega) ..).trans h.c5, (set7_far W (by omega) ..).trans h.c6⟩

end Go.Proofs.YtalfdjglbbmjcabGreatDoor

/- vellumhand.OverOps: operations written over, their lists too, and grown. -/
namespace Go.Proofs.YtalfdjglbbmjcabGreatDoor
open Go Go.RowKit Go.Lib
set_option linter.unusedVariables false

theorem Out.widen {lo hi a b : Nat} {w w' : World} (h : Out a b w w') (h1 : lo ≤ a) (h2 : b ≤ hi) : Out lo hi w w' :=
  ⟨h.os, h.tape, h.output, h.size, fun k hk ho => h.block k hk (by omega), fun k cur e fz hc hk => by
    by_cases hb : k < b
    · exact h.shape k cur e fz hc hb
    · exact ⟨cur, (h.block k (Array.getElem?_eq_some_iff.1 hc).1 (Or.inr (by omega))).trans hc, rfl⟩⟩
/-- A row of operations that may be written, in blocks between two marks or in new ones: its shape alone. -/
def LiO (w : World) (L H B : Nat) (v : Value) (n : Nat) : Prop :=
  (v = .slice none 0 0 ∧ n = 0) ∨ ∃ (g cap : Nat) (cur : Array Value), v = .slice (some ⟨g, 0, none⟩) n cap ∧ ((L ≤ g ∧ g < H) ∨ B ≤ g) ∧ w.heap[g]? = some (.cells cur 69 (0, 0)) ∧ n ≤ cap ∧ cur.size = cap * 7
theorem LiO.val {w : World} {L H B n : Nat} {v : Value} (h : LiO w L H B v n) : ∃ p c, v = .slice p n c := by
  rcases h with ⟨h, h0⟩ | ⟨g, cap, cur, h, _⟩
  · exact ⟨none, 0, by rw [h, h0]⟩
  · exact ⟨_, _, h⟩
theorem LiO.below {w w' : World} {L H B n : Nat} {v : Value} (h : LiO w L H B v n) (b : Below w.heap.size w w') : LiO w' L H B v n := by
  rcases h with h | ⟨g, cap, cur, h1, h2, h3, h4⟩
  · exact Or.inl h
  · exact Or.inr ⟨g, cap, cur, h1, h2, (b.block g (Array.getElem?_eq_some_iff.1 h3).1).trans h3, h4⟩
theorem OpAt.same_block {w w' : World} {g j : Nat} {d : OV} (h : OpAt w g j d) (hb : w'.heap[g]? = w.heap[g]?) : OpAt w' g j d := by
  have e : ∀ i, w'.cell? ⟨g, i, none⟩ = w.cell? ⟨g, i, none⟩ := fun i => World.cell?_of_block (a := ⟨g, i, none⟩) hb
  exact ⟨(e _).trans h.c0, (e _).trans h.c1, (e _).trans h.c2, (e _).trans h.c3, (e _).trans h.c4, (e _).trans h.c5, (e _).trans h.c6⟩
/-- append(such a row, one operation). -/
theorem wpList_append_reo {w u : World} {ops : Array Oper} {rest : List Oper} {o : Oper} {a : Act} {Q : Exit → Act → World → Prop} (hgd : o.guard = none) (s x : Operand)
    (ho : o.op = .call { callee := .builtin .append, args := #[s, x], argTypes := #[39, 39] })
    (L H : Nat) (v : Value) (n : Nat) (hs : a.eval s = v) (hv : LiO w L H u.heap.size v n) (hu : Out L H u w)
    (b c : Nat) (q : OV) (hx : a.eval x = .slice (some ⟨b, 0, none⟩) 1 c) (hM : OpAt w b 0 q) (h63 : n ≤ 2097152)
    (h : ∀ v' w', LiO w' L H u.heap.size v' (n + 1) → Out L H u w' → wpList Tryz.prog ops Q rest (a.put o.dst v') w') : wpList Tryz.prog ops Q (o :: rest) a w := by
  obtain ⟨i, z, hi, hz, hz1, hz2, hz3⟩ := infoOp
  have hnew : ∀ (j : Nat) (u : Value), (cellsO [q])[j]? = some u → w.cell? ((⟨b, 0, none⟩ : Addr).add j) = some u := fun j u hu => by
    rw [Addr.add_lit, Nat.zero_add]
    obtain ⟨h0, h1, h2, h3, h4, h5, h6⟩ := hM
    simp only [Nat.zero_add] at h0 h1 h2 h3 h4 h5 h6
    match j, hu with
    | 0, hj => simp [cellsO] at hj; rw [← hj]; exact h0
    | 1, hj => simp [cellsO] at hj; rw [← hj]; exact h1
    | 2, hj => simp [cellsO] at hj; rw [← hj]; exact h2
    | 3, hj => simp [cellsO] at hj; rw [← hj]; exact h3
    | 4, hj => simp [cellsO] at hj; rw [← hj]; exact h4
    | 5, hj => simp [cellsO] at hj; rw [← hj]; exact h5
    | 6, hj => simp [cellsO] at hj; rw [← hj]; exact h6
    | j + 7, hj => simp [cellsO] at hj
  have fin : ∀ (v' : Value) (w' : World) (xs : List Value), w'.ownsRow w.heap.size 69 7 v' (n + 1) xs → Out L H u w' → wpList Tryz.prog ops Q rest (a.put o.dst v') w' := fun v' w' xs hw ho' => by
    refine h _ _ ?_ ho'
    rcases hw.2 with ⟨_, h0⟩ | ⟨g, cap, cur, h1, h2, h3, h4, h5, h6, _⟩
    · omega
    · exact Or.inr ⟨g, cap, cur, h1, Or.inr (Nat.le_trans hu.size h2), h3, h4, h6⟩
  rcases hv with ⟨rfl, rfl⟩ | ⟨g, cap, cur, rfl, h2, h4, h5, h6⟩
  · exact wpList_append_grows w hgd s x _ ho 69 i z 7 88 Tryz.underlying39 hi hz hz1 hz2 hz3 (by decide) none 0 0 [] hs (fun _ => ⟨rfl, rfl⟩) rfl (fun b hb => (by cases hb)) ⟨b, 0, none⟩ 1 c (cellsO [q]) hx rfl hnew (cellsO_one _) (by decide) (by unfold maxLen; omega) (by omega) (fun v' w' r1 r2 => fin v' w' _ r1 (out_grownv hu r2))
  · refine wpList_append_arg w hgd s x _ ho 69 i z 7 88 Tryz.underlying39 hi hz hz1 hz2 hz3 (by decide) g 0 n cap (cur.toList.take (n * 7)) hs (by rw [List.length_take, Array.length_toList, h6]; omega) (fun j u hu => ?_) ⟨b, 0, none⟩ 1 c (cellsO [q]) hx rfl hnew (cellsO_one _) (fun hr j hj => ?_) (by unfold maxLen; omega) (by omega) (fun hr => ?_) (fun hr v' w' r1 r2 => fin v' w' _ r1 (out_grownv hu r2))
    · have hj := (List.getElem?_eq_some_iff.1 hu).1
      rw [List.getElem?_take] at hu
      split at hu
      · rw [Nat.zero_add]
        simp only [World.cell?, h4]
        simpa using hu
      · cases hu
    · have hj' : j < 7 := by simpa [cellsO] using hj
      rw [Nat.zero_add]
      exact ⟨by obtain ⟨u, hu⟩ := cell_atv h4 (n * 7 + j) (by omega); rw [hu]; rfl, frozen_of_row w g _ cur _ h4⟩
    · obtain ⟨cur', hc', hs'⟩ := (out_setCellsv (Nat.le_refl g) (Nat.lt_succ_self g) (cellsO [q]) (0 + n * 7) w (Out.refl g (g + 1) w)).shape g cur _ _ h4 (Nat.lt_succ_self g)
      refine h _ _ (Or.inr ⟨g, cap, cur', rfl, h2, hc', hr, by rw [hs', h6]⟩) ?_
      rcases h2 with ⟨h2, h3⟩ | h2
      · exact out_setCellsv h2 h3 _ _ _ hu
      · exact out_setCellsFar h2 _ _ _ hu

abbrev d98 : OV := (98, ⟨#[]⟩, z0, 0, (none, 0, 0))
end Go.Proofs.YtalfdjglbbmjcabGreatDoor

/- What writing over a list leaves of deltas; build.Same. -/
namespace Go.Proofs.YtalfdjglbbmjcabGreatDoor
open Go Go.RowKit Go.Lib
set_option linter.unusedVariables false

theorem DelV.out {w w' : World} {lo hi B1 B2 : Nat} {v : Value} {E : List Op5} (h : DelV w B1 B2 v E) (o : Out lo hi w w') (h1 : hi ≤ B1) (h2 : hi ≤ B2) : DelV w' B1 B2 v E := by
  obtain ⟨q, pv, PL, a1, a2, a3, a4, a5⟩ := h
  refine ⟨q, pv, PL, a1, a2, (o.block q (Array.getElem?_eq_some_iff.1 a3).1 (Or.inr (by omega))).trans a3, o.own h1 a4, ?_⟩
  exact All2.imp (fun x e h => by obtain ⟨s, k1, k2⟩ := h; exact ⟨s, k1, o.own h2 k2⟩) a5
theorem FarO.out {w w' : World} {lo hi B : Nat} {v : Value} {D : List OV} (h : FarO w B v D) (o : Out lo hi w w') (h1 : hi ≤ B) : FarO w' B v D := by
  obtain ⟨p, cap, a1, a2, a3, a4⟩ := h
  exact ⟨p, cap, a1, a2, a3, fun j d hd => by
    obtain ⟨b, off, k1, k0, k2⟩ := a4 j d hd
    exact ⟨b, off, k1, k0, k2.same_block (o.block b (lt_of_cell k2.c0) (Or.inr (by omega)))⟩⟩

set_option maxHeartbeats 1000000 in
theorem buildSame_any {B1 B2 C1 C2 : Nat} (d1 d2 : Value) (E F : List Op5) (w : World) (h : DelV w B1 B2 d1 E) (h' : DelV w C1 C2 d2 F) (gE : ∀ o ∈ E, opE o = 0) (gF : ∀ o ∈ F, opE o = 0) (hE : OkR E) (hF : OkR F) :
    Calls Tryz.prog 30 #[d1, d2] w fun r w' => r = .returned (.bool (decide (E = F))) ∧ Below w.heap.size w w' := by
  have c1 := ops_any d1 E w h gE (fun o ho => by have := hE.n o ho; omega) (by have := hE.len; omega)
  have c2 : Hid (∀ W, Below w.heap.size w W → Calls Tryz.prog 21 #[d2] W fun r w' => ∃ v', r = .returned v' ∧ CoO w' W.heap.size v' F ∧ Below W.heap.size W w') := fun W hW => ops_any d2 F W (h'.below hW) gF (fun o ho => by have := hF.n o ho; omega) (by have := hF.len; omega)
  have c3 : Hid (∀ W v v', ReO W v E → ReO W v' F → Calls Tryz.prog 56 #[v, v'] W fun r w' => r = .returned (.bool (decide (E = F))) ∧ Below W.heap.size W w') := fun W v v' a b => sameL_any v v' E F W a b hE.len hF.len hE.n hF.n
  go_enter Tryz.func30, Tryz.ntmps30
  go_wp2_with fail
  refine c1.mono ?_; rintro r w1 ⟨v1, rfl, k1, hb1⟩
  have cc := c2.out w1 hb1
  have K1 := Hid.mk' k1.re
  clear c1 c2 k1
  go_wp2_with fail
  refine cc.mono ?_; rintro r w2 ⟨v2, rfl, k2, hb2⟩
  have b2 := hb1.trans (hb2.mono hb1.size)
  have cd := c3.out w2 v1 v2 (K1.out.below hb2) k2.re
  clear cc c3 K1 k2 hb1 hb2
  go_wp2_with fail
  refine cd.mono ?_; rintro r w3 ⟨rfl, hb3⟩
  have b3 := b2.trans (hb3.mono b2.size)
  clear cd b2 hb3
  go_wp2
  go_ret
  exact ⟨rfl, b3⟩
end Go.Proofs.YtalfdjglbbmjcabGreatDoor

/- Of all lists of cells vellumlaw09.CellsBack answers true. -/
namespace Go.Proofs.YtalfdjglbbmjcabGreatDoor
open Go Go.RowKit Go.Lib Go.Shelf
set_option linter.unusedVariables false

theorem Hid.mkh {P : Prop} (h : P) : Hid P := h
theorem goodC9 {A : List C5} (h : ∀ e ∈ A, celE e = 0) : ∀ c ∈ A, GoodC c := fun c hc => good_iff.1 (h c hc)
theorem doc_facts9 {A : List C5} (hg : ∀ e ∈ A, celE e = 0) (hF : ∀ e ∈ A, FitC e) (ht : txtS (A.map opOf) ≤ 1048576) (hl : A.length ≤ 1048576) :
    (∀ o ∈ docOf A, opE o = 0) ∧ (∀ o ∈ docOf A, FitA o) ∧ (docOf A).length ≤ 1048576 ∧ txtS (docOf A) ≤ 1048576 ∧ sumB (docOf A) = 0 ∧ sumR (docOf A) = A.length ∧ cellsL (docOf A) = A ∧ OkR (docOf A) := by
  have hc := goodC9 hg
  have ok := okE_cells hg hF (by omega) hl
  obtain ⟨k1, k2, k3⟩ := canon_ok ok
  rw [List.length_map] at k3
  have hu := doc_units hc
  have hw : ∀ o ∈ A.map opOf, Wel o := fun o ho => by
    obtain ⟨c, hc', rfl⟩ := List.mem_map.1 ho
    exact (opOf_good (hc c hc')).1
  have hs := sums_cells A hg
  have hb : sumB (docOf A) = 0 := by
    have h1 := (canon_sums hw).1
    have h2 := sums_nn hu.1
    rw [hs.1] at h1
    have : sumB (docOf A) ≤ 0 := h1
    omega
  have hr : sumR (docOf A) = A.length := by rw [sumR_units hu.1, hu.2.2.2, ← units_ops hc, ← sumR_units hw]; exact hs.2
  have e1 : (docOf A).length ≤ A.length := k3
  have e2 : txtS (docOf A) ≤ txtS (A.map opOf) := k2
  exact ⟨k1.good, k1.fit, by omega, by omega, hb, hr, (cells_doc hc).2, OkE.okR k1 (by show (docOf A).length ≤ _; omega)⟩
theorem doc_dle9 {A : List C5} (hg : ∀ e ∈ A, celE e = 0) (hF : ∀ e ∈ A, FitC e) (ht : txtS (A.map opOf) ≤ 1048576) (hl : A.length ≤ 1048576) {W : World} {B1 B2 : Nat} {dv : Value} (h : DelV W B1 B2 dv (docOf A)) : DlE W B1 B2 dv (docOf A) := by
  obtain ⟨h1, h2, h3, h4, h5, h6, _, _⟩ := doc_facts9 hg hF ht hl
  exact ⟨h, h1, h2, by omega, by omega, ⟨by rw [h5]; decide, by rw [h6]; omega⟩⟩
theorem doc_join9 {A B : List C5} (hA : ∀ e ∈ A, celE e = 0) (hB : ∀ e ∈ B, celE e = 0) : canonL (docOf A ++ docOf B) = docOf (A ++ B) := by
  have hAB : ∀ c ∈ A ++ B, GoodC c := fun c hc => (List.mem_append.1 hc).elim (goodC9 hA c) (goodC9 hB c)
  have u1 := doc_units (goodC9 hA)
  have u2 := doc_units (goodC9 hB)
  have u3 := doc_units hAB
  refine canon_unique (fun o ho => (List.mem_append.1 ho).elim (u1.1 o) (u2.1 o)) u3.1 u3.2.1 ?_
  rw [u3.2.2.2, units_append, u1.2.2.2, u2.2.2.2, ← List.map_append, nrm_ins0, strip_ins]
theorem doc_inj9 {A B : List C5} (hA : ∀ e ∈ A, celE e = 0) (hB : ∀ e ∈ B, celE e = 0) : docOf A = docOf B ↔ A = B :=
  ⟨fun h => by rw [← (cells_doc (goodC9 hA)).2, ← (cells_doc (goodC9 hB)).2, h], fun h => by rw [h]⟩
end Go.Proofs.YtalfdjglbbmjcabGreatDoor

/- Of all lists of cells vellumlaw09.CellsBack answers true. -/
namespace Go.Proofs.YtalfdjglbbmjcabGreatDoor
open Go Go.RowKit Go.Lib
set_option linter.unusedVariables false

set_option maxHeartbeats 16000000 in
set_option maxRecDepth 100000 in
theorem cellsBack_any {I : List Nat} {a : Nat → Addr} (v0 : Value) (C0 : List CV) (A0 : List C5) (v1 : Value) (C1 : List CV) (A1 : List C5) (w : World) (hI : ∀ i ∈ IxO, i ∈ I) (hS : Std I a w) (r0 : RowC w v0 C0) (m0 : Are w C0 A0) (r1 : RowC w v1 C1) (m1 : Are w C1 A1) (f0 : ∀ e ∈ A0, FitC e) (f1 : ∀ e ∈ A1, FitC e) (l0 : A0.length ≤ 1048576) (l1 : A1.length ≤ 1048576) :
    Calls Tryz.prog 5 #[v0, v1] w fun r w' => r = .returned (.bool true) ∧ Below w.heap.size w w' := by
  have cF := lives9_any w hI hS
  have cL0 : Hid (∀ W, Below w.heap.size w W → Calls Tryz.prog 8 #[v0] W fun r w' => r = .returned (.bool (decide (20000 < larC A0))) ∧ Below W.heap.size W w') := fun W hW => large9_any v0 C0 A0 W (r0.below hW) (m0.below hW) (fun e he => ⟨(f0 e he).t, (f0 e he).n⟩) l0
  have cL1 : Hid (∀ W, Below w.heap.size w W → Calls Tryz.prog 8 #[v1] W fun r w' => r = .returned (.bool (decide (20000 < larC A1))) ∧ Below W.heap.size W w') := fun W hW => large9_any v1 C1 A1 W (r1.below hW) (m1.below hW) (fun e he => ⟨(f1 e he).t, (f1 e he).n⟩) l1
  have cO : Hid (∀ (L : List C5), (∀ e ∈ L, FitC e) → L.length ≤ 1048576 → txtS (L.map opOf) ≤ 1048576 → ∀ (W : World) (u : Value) (D : List CV), Below w.heap.size w W → RowC W u D → Are W D L → Calls Tryz.prog 13 #[u] W fun r w' => ∃ dv, r = .returned (.tuple #[dv, .int .i64 (celP L).1, errOf a (celP L).2]) ∧ ((celP L).2 = 0 → DelV w' W.heap.size W.heap.size dv (docOf L)) ∧ ((celP L).2 ≠ 0 → dv = .pointer none) ∧ Below W.heap.size W w') := fun L h1 h2 h3 W u D hW h4 h5 => ofC_any u D L W hI (hS.below hW) h4 h5 h1 h2 (by omega)
  have HS : Hid (∀ W, Below w.heap.size w W → Std I a W) := fun W hW => hS.below hW
  have HI : Hid (∀ i ∈ IxO, i ∈ I) := hI
  have HR : Hid (∀ W, Below w.heap.size w W → (RowC W v0 C0 ∧ Are W C0 A0) ∧ (RowC W v1 C1 ∧ Are W C1 A1)) := fun W hW => ⟨⟨r0.below hW, m0.below hW⟩, ⟨r1.below hW, m1.below hW⟩⟩
  have HF : Hid (((∀ e ∈ A0, FitC e) ∧ A0.length ≤ 1048576) ∧ ((∀ e ∈ A1, FitC e) ∧ A1.length ≤ 1048576)) := ⟨⟨f0, l0⟩, ⟨f1, l1⟩⟩
  have e0 := forall2_len m0
  have e1 := forall2_len m1
  obtain ⟨p0, k0, rfl, _⟩ := id r0
  obtain ⟨p1, k1, rfl, _⟩ := id r1
  obtain ⟨n0, hn0⟩ : ∃ n, C0.length = n := ⟨_, rfl⟩
  obtain ⟨n1, hn1⟩ : ∃ n, C1.length = n := ⟨_, rfl⟩
  have HN : Hid ((A0.length = n0 ∧ C0.length = n0) ∧ A1.length = n1 ∧ C1.length = n1) := ⟨⟨by rw [← e0, hn0], hn0⟩, by rw [← e1, hn1], hn1⟩
  rw [hn0] at cL0 HR ⊢
  rw [hn1] at cL1 HR ⊢
  obtain ⟨q0, hq0⟩ : ∃ q, decide (20000 < larC A0) = q := ⟨_, rfl⟩
  obtain ⟨q1, hq1⟩ : ∃ q, decide (20000 < larC A1) = q := ⟨_, rfl⟩
  rw [hq0] at cL0
  rw [hq1] at cL1
  have HQ : Hid (decide (20000 < larC A0) = q0 ∧ decide (20000 < larC A1) = q1) := ⟨hq0, hq1⟩
  clear hI hS r0 m0 r1 m1 f0 f1 l0 l1 e0 e1 hn0 hn1 hq0 hq1
  go_enter Tryz.func5, Tryz.ntmps5
  go_wp2_with fail
  refine cF.mono ?_; rintro r wz ⟨rfl, hbz⟩
  clear cF
  have cA := cL0.out _ hbz
  clear cL0
  go_wp2_with fail
  refine cA.mono ?_; rintro r wy ⟨rfl, hy⟩
  have hby := hbz.trans (hy.mono hbz.size)
  clear cA hy hbz
  cases q0 with
  | true =>
    go_wp2
    go_ret
    exact ⟨rfl, hby⟩
  | false =>
    have cB := cL1.out _ hby
    clear cL1
    go_wp2_with fail
    refine cB.mono ?_; rintro r wx ⟨rfl, hx⟩
    have hbx := hby.trans (hx.mono hby.size)
    clear cB hx hby
    cases q1 with
    | true =>
      go_wp2
      go_ret
      exact ⟨rfl, hbx⟩
    | false =>
      obtain ⟨hs0, hl0, -⟩ := lightC HQ.out.1
      obtain ⟨hs1, hl1, -⟩ := lightC HQ.out.2
      have HT : Hid ((txtS (A0.map opOf) ≤ 80000 ∧ A0.length ≤ 20000) ∧ (txtS (A1.map opOf) ≤ 80000 ∧ A1.length ≤ 20000)) := ⟨⟨hs0, hl0⟩, ⟨hs1, hl1⟩⟩
      clear HQ hs0 hl0 hs1 hl1
      have cC := cO.out A0 HF.out.1.1 HF.out.1.2 (by have := HT.out; omega) wx _ C0 hbx (HR.out wx hbx).1.1 (HR.out wx hbx).1.2
      obtain ⟨er0, her0⟩ : ∃ x, (celP A0).2 = x := ⟨_, rfl⟩
      obtain ⟨pl0, hpl0⟩ : ∃ x : Nat, (celP A0).1 = x := ⟨_, rfl⟩
      rw [her0, hpl0] at cC
      go_wp2_with fail
      refine cC.mono ?_; rintro r w0 ⟨x, rfl, hx0, hx1, hb0'⟩
      have hb0 := hbx.trans (hb0'.mono hbx.size)
      have K0 : Hid ((er0 = 0 → DelV w0 wx.heap.size wx.heap.size x (docOf A0)) ∧ (celP A0).2 = er0) := ⟨hx0, her0⟩
      clear cC hx0 hx1 hb0' hbx her0 hpl0
      have cE := cO.out A1 HF.out.2.1 HF.out.2.2 (by have := HT.out; omega) w0 _ C1 hb0 (HR.out w0 hb0).2.1 (HR.out w0 hb0).2.2
      obtain ⟨er1, her1⟩ : ∃ x, (celP A1).2 = x := ⟨_, rfl⟩
      obtain ⟨pl1, hpl1⟩ : ∃ x : Nat, (celP A1).1 = x := ⟨_, rfl⟩
      rw [her1, hpl1] at cE
      cases er0 with
      | succ d0 =>
        obtain ⟨t0, y0, hv0⟩ : ∃ t y, errOf a (d0 + 1) = .iface t y := ⟨_, _, rfl⟩
        obtain ⟨ev, hev⟩ : ∃ x, errOf a er1 = x := ⟨_, rfl⟩
        rw [hv0]
        rw [hev] at cE
        clear hv0 hev K0
        go_wp2_with fail
        refine cE.mono ?_; rintro r w9 ⟨y, rfl, -, -, hb9⟩
        have hb99 := hb0.trans (hb9.mono hb0.size)
        clear cE
        go_wp2
        go_ret
        exact ⟨rfl, hb99⟩
      | zero =>
        rw [show errOf a 0 = .nilIface from rfl]
        cases er1 with
        | succ d1 =>
          obtain ⟨t1, y1, hv1⟩ : ∃ t y, errOf a (d1 + 1) = .iface t y := ⟨_, _, rfl⟩
          rw [hv1] at cE
          clear hv1 K0
          go_wp2_with fail
          refine cE.mono ?_; rintro r w9 ⟨y, rfl, -, -, hb9⟩
          have hb99 := hb0.trans (hb9.mono hb0.size)
          clear cE
          go_wp2
          go_ret
          exact ⟨rfl, hb99⟩
        | zero =>
          rw [show errOf a 0 = .nilIface from rfl] at cE
          have HG : Hid ((∀ e ∈ A0, celE e = 0) ∧ ∀ e ∈ A1, celE e = 0) := ⟨celP_zero.1 K0.out.2, celP_zero.1 her1⟩
          clear her1 hpl1
          go_wp2_with fail
          refine cE.mono ?_; rintro r w1 ⟨y, rfl, hy0, hy1, hb1'⟩
          have hb1 := hb0.trans (hb1'.mono hb0.size)
          have F0 := doc_facts9 HG.out.1 HF.out.1.1 (by have := HT.out; omega) HF.out.1.2
          have F1 := doc_facts9 HG.out.2 HF.out.2.1 (by have := HT.out; omega) HF.out.2.2
          have X0 := doc_dle9 HG.out.1 HF.out.1.1 (by have := HT.out; omega) HF.out.1.2 (delV_low ((K0.out.1 (by first | trivial | rfl)).below hb1') (Nat.zero_le _) (Nat.zero_le _))
          have Y0 := doc_dle9 HG.out.2 HF.out.2.1 (by have := HT.out; omega) HF.out.2.2 (delV_low (hy0 (by first | trivial | rfl)) (Nat.zero_le _) (Nat.zero_le _))
          have HJ : Hid (canonL (docOf A0 ++ docOf A1) = docOf (A0 ++ A1) ∧ (docOf A0 = docOf A1 ↔ A0 = A1)) := ⟨doc_join9 HG.out.1 HG.out.2, doc_inj9 HG.out.1 HG.out.2⟩
          have HP : Hid (celP A0 = (0, 0) ∧ celP (A0 ++ A1) = (0, 0)) := ⟨cel_none HG.out.1, cel_none fun o ho => (List.mem_append.1 ho).elim (HG.out.1 o) (HG.out.2 o)⟩
          have HD : Hid (∀ dv W B1 B2, DelV W B1 B2 dv (docOf (A0 ++ A1)) → (∀ o ∈ docOf (A0 ++ A1), opE o = 0) ∧ OkR (docOf (A0 ++ A1))) := fun dv W B1 B2 _ => by
            have := doc_facts9 (A := A0 ++ A1) (fun o ho => (List.mem_append.1 ho).elim (HG.out.1 o) (HG.out.2 o)) (fun o ho => (List.mem_append.1 ho).elim (HF.out.1.1 o) (HF.out.2.1 o)) (by rw [List.map_append, txtS_append]; have := HT.out; omega) (by rw [List.length_append]; have := HT.out; omega)
            exact ⟨this.1, this.2.2.2.2.2.2.2⟩
          have HFF : Hid (((∀ o ∈ docOf A0, opE o = 0) ∧ (docOf A0).length ≤ 1048576 ∧ sumB (docOf A0) = 0 ∧ sumR (docOf A0) = A0.length ∧ cellsL (docOf A0) = A0 ∧ OkR (docOf A0)) ∧ ((∀ o ∈ docOf A1, opE o = 0) ∧ (docOf A1).length ≤ 1048576 ∧ sumB (docOf A1) = 0 ∧ sumR (docOf A1) = A1.length ∧ OkR (docOf A1))) := ⟨⟨F0.1, F0.2.2.1, F0.2.2.2.2.1, F0.2.2.2.2.2.1, F0.2.2.2.2.2.2.1, F0.2.2.2.2.2.2.2⟩, ⟨F1.1, F1.2.2.1, F1.2.2.2.2.1, F1.2.2.2.2.2.1, F1.2.2.2.2.2.2.2⟩⟩
          have HX := Hid.mkh X0
          have HY := Hid.mkh Y0
          obtain ⟨qx, rfl⟩ : ∃ q, x = .pointer (some ⟨q, 0, none⟩) := by obtain ⟨q, _, _, e, _⟩ := X0.d; exact ⟨q, e⟩
          obtain ⟨qy, rfl⟩ : ∃ q, y = .pointer (some ⟨q, 0, none⟩) := by obtain ⟨q, _, _, e, _⟩ := Y0.d; exact ⟨q, e⟩
          obtain ⟨R, hR⟩ : ∃ R, decide (A0 = A1) = R := ⟨_, rfl⟩
          have HRR : Hid (decide (A0 = A1) = R ∧ decide (docOf A0 = docOf A1) = R) := ⟨hR, by rw [← hR]; exact decide_eq_decide.2 HJ.out.2⟩
          have z1 : (R != R) = false := bne_self_eq_false R
          have z2 : ((n0 : Int) != n0) = false := bne_self_eq_false _
          clear F0 F1 X0 Y0 K0 cE hy0 hy1 hb1' hb0 hR
          have cs1 := list9_any _ (docOf A0) w1 HX.out HFF.out.1.2.2.1 (by rw [HFF.out.1.2.2.2.1]; have := HT.out; omega) (by rw [HFF.out.1.2.2.2.2.1]; have := HT.out; omega)
          go_wp2_with fail
          refine cs1.mono ?_; rintro r ws1 ⟨lv, rfl, ⟨D, hown, hare⟩, bs1⟩
          have hbs1 := hb1.trans (bs1.mono hb1.size)
          have HX_s1 := Hid.mkh (HX.out.below bs1)
          have HY_s1 := Hid.mkh (HY.out.below bs1)
          rw [HFF.out.1.2.2.2.2.1] at hare
          have hDn : D.length = n0 := by have := forall2_len hare; have := HN.out; omega
          obtain ⟨pv, cv, rfl⟩ : ∃ p c, lv = .slice p n0 c := by obtain ⟨p, c, h, _⟩ := own_rowC hown; rw [hDn] at h; exact ⟨p, c, h⟩
          have HLR_s1 := Hid.mkh (own_rowC hown)
          have HLA_s1 := Hid.mkh (hare.are)
          clear cs1 bs1 hb1 HX HY hown hare hDn
          have cs2 := sameL9_any _ _ D C0 A0 A0 ws1 HLR_s1.out (HR.out ws1 hbs1).1.1 HLA_s1.out (HR.out ws1 hbs1).1.2 (by have := HT.out; omega) (by have := HT.out; omega) (fun e he => by have := (HF.out.1.1 e he).n; omega) (fun e he => by have := (HF.out.1.1 e he).n; omega)
          rw [decide_eq_true rfl] at cs2
          go_wp2_with fail
          refine cs2.mono ?_; rintro r ws2 ⟨rfl, bs2⟩
          have hbs2 := hbs1.trans (bs2.mono hbs1.size)
          have HX_s2 := Hid.mkh (HX_s1.out.below bs2)
          have HY_s2 := Hid.mkh (HY_s1.out.below bs2)
          have HLR_s2 := Hid.mkh (HLR_s1.out.below bs2)
          have HLA_s2 := Hid.mkh (HLA_s1.out.below bs2)
          clear cs2 bs2 hbs1 HX_s1 HY_s1 HLR_s1 HLA_s1
          have cs3 := doc8_any _ _ ws2 HX_s2.out
          rw [show (sumB (docOf A0) == 0) = true by rw [HFF.out.1.2.2.1]; rfl] at cs3
          go_wp2_with fail
          refine cs3.mono ?_; rintro r ws3 ⟨rfl, bs3⟩
          have hbs3 := hbs2.trans (bs3.mono hbs2.size)
          have HX_s3 := Hid.mkh (HX_s2.out.below bs3)
          have HY_s3 := Hid.mkh (HY_s2.out.below bs3)
          have HLR_s3 := Hid.mkh (HLR_s2.out.below bs3)
          have HLA_s3 := Hid.mkh (HLA_s2.out.below bs3)
          clear cs3 bs3 hbs2 HX_s2 HY_s2 HLR_s2 HLA_s2
          have cs4 := result8_any _ _ ws3 HX_s3.out
          rw [HFF.out.1.2.2.2.1, HN.out.1.1] at cs4
          go_wp2_with fail
          refine cs4.mono ?_; rintro r ws4 ⟨rfl, bs4⟩
          have hbs4 := hbs3.trans (bs4.mono hbs3.size)
          have HX_s4 := Hid.mkh (HX_s3.out.below bs4)
          have HY_s4 := Hid.mkh (HY_s3.out.below bs4)
          have HLR_s4 := Hid.mkh (HLR_s3.out.below bs4)
          have HLA_s4 := Hid.mkh (HLA_s3.out.below bs4)
          clear cs4 bs4 hbs3 HX_s3 HY_s3 HLR_s3 HLA_s3
          have cs5 := cO.out A0 HF.out.1.1 HF.out.1.2 (by have := HT.out; omega) ws4 _ D hbs4 HLR_s4.out HLA_s4.out
          rw [HP.out.1] at cs5
          rw [show errOf a ((0, 0) : Nat × Nat).2 = .nilIface from rfl] at cs5
          go_wp2_with fail
          refine cs5.mono ?_; rintro r ws5 ⟨x2, rfl, hx2, -, bs5⟩
          have hbs5 := hbs4.trans (bs5.mono hbs4.size)
          have HX_s5 := Hid.mkh (HX_s4.out.below bs5)
          have HY_s5 := Hid.mkh (HY_s4.out.below bs5)
          have HLR_s5 := Hid.mkh (HLR_s4.out.below bs5)
          have HLA_s5 := Hid.mkh (HLA_s4.out.below bs5)
          have hd2 := hx2 (by first | trivial | rfl)
          obtain ⟨qz, rfl⟩ : ∃ q, x2 = .pointer (some ⟨q, 0, none⟩) := by obtain ⟨q, _, _, e, _⟩ := hd2; exact ⟨q, e⟩
          have HZ_s5 := Hid.mkh (delV_low hd2 (Nat.zero_le _) (Nat.zero_le _))
          clear cs5 bs5 hbs4 HX_s4 HY_s4 HLR_s4 HLA_s4 hx2 hd2
          have cs6 := buildSame_any _ _ (docOf A0) (docOf A0) ws5 HZ_s5.out HX_s5.out.d HFF.out.1.1 HFF.out.1.1 HFF.out.1.2.2.2.2.2 HFF.out.1.2.2.2.2.2
          rw [decide_eq_true rfl] at cs6
          go_wp2_with fail
          refine cs6.mono ?_; rintro r ws6 ⟨rfl, bs6⟩
          have hbs6 := hbs5.trans (bs6.mono hbs5.size)
          have HX_s6 := Hid.mkh (HX_s5.out.below bs6)
          have HY_s6 := Hid.mkh (HY_s5.out.below bs6)
          have HLR_s6 := Hid.mkh (HLR_s5.out.below bs6)
          have HLA_s6 := Hid.mkh (HLA_s5.out.below bs6)
          have HZ_s6 := Hid.mkh (HZ_s5.out.below bs6)
          clear cs6 bs6 hbs5 HX_s5 HY_s5 HLR_s5 HLA_s5 HZ_s5
          have cs7 := buildSame_any _ _ (docOf A0) (docOf A1) ws6 HX_s6.out.d HY_s6.out.d HFF.out.1.1 HFF.out.2.1 HFF.out.1.2.2.2.2.2 HFF.out.2.2.2.2.2
          rw [HRR.out.2] at cs7
          go_wp2_with fail
          refine cs7.mono ?_; rintro r ws7 ⟨rfl, bs7⟩
          have hbs7 := hbs6.trans (bs7.mono hbs6.size)
          have HX_s7 := Hid.mkh (HX_s6.out.below bs7)
          have HY_s7 := Hid.mkh (HY_s6.out.below bs7)
          have HLR_s7 := Hid.mkh (HLR_s6.out.below bs7)
          have HLA_s7 := Hid.mkh (HLA_s6.out.below bs7)
          have HZ_s7 := Hid.mkh (HZ_s6.out.below bs7)
          clear cs7 bs7 hbs6 HX_s6 HY_s6 HLR_s6 HLA_s6 HZ_s6
          have cs8 := sameL9_any _ _ C0 C1 A0 A1 ws7 (HR.out ws7 hbs7).1.1 (HR.out ws7 hbs7).2.1 (HR.out ws7 hbs7).1.2 (HR.out ws7 hbs7).2.2 (by have := HT.out; omega) (by have := HT.out; omega) (fun e he => by have := (HF.out.1.1 e he).n; omega) (fun e he => by have := (HF.out.2.1 e he).n; omega)
          rw [HRR.out.1] at cs8
          go_wp2_with fail
          refine cs8.mono ?_; rintro r ws8 ⟨rfl, bs8⟩
          have hbs8 := hbs7.trans (bs8.mono hbs7.size)
          have HX_s8 := Hid.mkh (HX_s7.out.below bs8)
          have HY_s8 := Hid.mkh (HY_s7.out.below bs8)
          have HLR_s8 := Hid.mkh (HLR_s7.out.below bs8)
          have HLA_s8 := Hid.mkh (HLA_s7.out.below bs8)
          have HZ_s8 := Hid.mkh (HZ_s7.out.below bs8)
          clear cs8 bs8 hbs7 HX_s7 HY_s7 HLR_s7 HLA_s7 HZ_s7
          have oE := own_emptyC ws8 ws8.heap.size (Nat.le_refl _)
          have bE := (Below.refl ws8.heap.size ws8).alloc (Nat.le_refl _) (.cells #[] 30)
          have bEw := hbs8.trans (bE.mono hbs8.size)
          have HAp : Hid (OwnC (ws8.alloc (.cells #[] 30)) ws8.heap.size (.slice (some ⟨ws8.heap.size, 0, none⟩) 0 0) [] ∧ Below ws8.heap.size ws8 (ws8.alloc (.cells #[] 30)) ∧ Below w.heap.size w (ws8.alloc (.cells #[] 30))) := ⟨oE, bE, bEw⟩
          have hn63 : ([] : List CV).length + C0.length ≤ 33554432 := by have := HT.out; have := HN.out; simp; omega
          clear oE bE bEw
          go_wp2_with (first
            | (at_builtin; refine wpList_append_cells rfl (.tmp 97) (.tmp 98) rfl ws8.heap.size (.slice (some ⟨ws8.heap.size, 0, none⟩) 0 0) [] rfl HAp.out.1 (.slice p0 n0 k0) C0 rfl (HR.out _ HAp.out.2.2).1.1 hn63 HAp.out.2.1.size ?_; intro u1 u1w own1 gr1; have hg1 := HAp.out.2.1.grown gr1 HAp.out.2.1.size (fun k hk => (owns_block HAp.out.1 k hk).1); have hw1 := hbs8.trans (hg1.mono hbs8.size); obtain ⟨pp, nn, cc, ee⟩ : ∃ p n c, u1 = .slice p n c := (by obtain ⟨p, c, h, _⟩ := own_rowC own1; exact ⟨p, _, c, h⟩); subst ee; have HU1 : Hid (OwnC u1w ws8.heap.size (.slice pp nn cc) C0 ∧ Below ws8.heap.size ws8 u1w ∧ Below w.heap.size w u1w) := ⟨own1, hg1, hw1⟩; have hn64 : C0.length + C1.length ≤ 33554432 := (by have := HT.out; have := HN.out; omega); clear own1 gr1 hg1 hw1 HAp hn63)
            | (at_builtin; refine wpList_append_cells rfl (.tmp 99) (.tmp 100) rfl ws8.heap.size (.slice pp nn cc) C0 rfl HU1.out.1 (.slice p1 n1 k1) C1 rfl (HR.out _ HU1.out.2.2).2.1 hn64 HU1.out.2.1.size ?_; intro u2 u2w own2 gr2; have hg2 := HU1.out.2.1.grown gr2 HU1.out.2.1.size (fun k hk => (owns_block HU1.out.1 k hk).1); have hw2 := hbs8.trans (hg2.mono hbs8.size); obtain ⟨pq, nq, cq, eq⟩ : ∃ p n c, u2 = .slice p n c := (by obtain ⟨p, c, h, _⟩ := own_rowC own2; exact ⟨p, _, c, h⟩); subst eq; have HU2 : Hid (OwnC u2w ws8.heap.size (.slice pq nq cq) (C0 ++ C1) ∧ Below ws8.heap.size ws8 u2w ∧ Below w.heap.size w u2w) := ⟨own2, hg2, hw2⟩; clear own2 gr2 hg2 hw2 hn64 HU1))
          have HX9 := Hid.mkh (HX_s8.out.below HU2.out.2.1)
          have HY9 := Hid.mkh (HY_s8.out.below HU2.out.2.1)
          have hb9 := HU2.out.2.2
          have HRW := Hid.mkh (own_rowC HU2.out.1)
          have HRA := Hid.mkh (show Are u2w (C0 ++ C1) (A0 ++ A1) from forall2_append (HR.out _ hb9).1.2 (HR.out _ hb9).2.2)
          clear HU2 hbs8 HX_s8 HY_s8 HLR_s8 HLA_s8 HZ_s8
          have cs9 := cO.out (A0 ++ A1) (fun e he => (List.mem_append.1 he).elim (HF.out.1.1 e) (HF.out.2.1 e)) (by rw [List.length_append]; have := HT.out; omega) (by rw [List.map_append, txtS_append]; have := HT.out; omega) u2w _ (C0 ++ C1) hb9 HRW.out HRA.out
          rw [HP.out.2] at cs9
          rw [show errOf a ((0, 0) : Nat × Nat).2 = .nilIface from rfl] at cs9
          go_wp2_with fail
          refine cs9.mono ?_; rintro r ws9 ⟨x3, rfl, hx3, -, bs9⟩
          have hbs9 := hb9.trans (bs9.mono hb9.size)
          have HX_s9 := Hid.mkh (HX9.out.below bs9)
          have HY_s9 := Hid.mkh (HY9.out.below bs9)
          have RW_s9 := Hid.mkh (HRW.out.below bs9)
          have RA_s9 := Hid.mkh (HRA.out.below bs9)
          have hd3 := hx3 (by first | trivial | rfl)
          obtain ⟨qw, rfl⟩ : ∃ q, x3 = .pointer (some ⟨q, 0, none⟩) := by obtain ⟨q, _, _, e, _⟩ := hd3; exact ⟨q, e⟩
          have HV_s9 := Hid.mkh (delV_low hd3 (Nat.zero_le _) (Nat.zero_le _))
          clear cs9 bs9 hb9 HX9 HY9 HRW HRA hx3 hd3
          have cs10 := concat8_any _ _ (docOf A0) (docOf A1) ws9 HI.out (HS.out ws9 hbs9) HX_s9.out HY_s9.out (by have := HFF.out; omega)
          go_wp2_with fail
          refine cs10.mono ?_; rintro r ws10 ⟨x4, er4, rfl, hx4, bs10⟩
          have hbs10 := hbs9.trans (bs10.mono hbs9.size)
          have HX_s10 := Hid.mkh (HX_s9.out.below bs10)
          have HY_s10 := Hid.mkh (HY_s9.out.below bs10)
          have RW_s10 := Hid.mkh (RW_s9.out.below bs10)
          have RA_s10 := Hid.mkh (RA_s9.out.below bs10)
          have HV_s10 := Hid.mkh (HV_s9.out.below bs10)
          obtain ⟨rfl, hd4⟩ := hx4.1 (by unfold Fits8; rw [sumB_append, sumR_append, HFF.out.1.2.2.1, HFF.out.2.2.2.1, HFF.out.1.2.2.2.1, HFF.out.2.2.2.2.1]; have := HT.out; omega)
          rw [HJ.out.1] at hd4
          obtain ⟨qv, rfl⟩ : ∃ q, x4 = .pointer (some ⟨q, 0, none⟩) := by obtain ⟨q, _, _, e, _⟩ := hd4; exact ⟨q, e⟩
          have HU_s10 := Hid.mkh (delV_low hd4 (Nat.zero_le _) (Nat.zero_le _))
          clear cs10 bs10 hbs9 HX_s9 HY_s9 RW_s9 RA_s9 HV_s9 hx4 hd4
          have cs11 := buildSame_any _ _ (docOf (A0 ++ A1)) (docOf (A0 ++ A1)) ws10 HV_s10.out HU_s10.out (HD.out _ _ _ _ HV_s10.out).1 (HD.out _ _ _ _ HV_s10.out).1 (HD.out _ _ _ _ HV_s10.out).2 (HD.out _ _ _ _ HV_s10.out).2
          rw [decide_eq_true rfl] at cs11
          go_wp2_with fail
          refine cs11.mono ?_; rintro r ws11 ⟨rfl, bs11⟩
          have hbs11 := hbs10.trans (bs11.mono hbs10.size)
          have HX_s11 := Hid.mkh (HX_s10.out.below bs11)
          have HY_s11 := Hid.mkh (HY_s10.out.below bs11)
          have RW_s11 := Hid.mkh (RW_s10.out.below bs11)
          have RA_s11 := Hid.mkh (RA_s10.out.below bs11)
          have HV_s11 := Hid.mkh (HV_s10.out.below bs11)
          have HU_s11 := Hid.mkh (HU_s10.out.below bs11)
          clear cs11 bs11 hbs10 HX_s10 HY_s10 RW_s10 RA_s10 HV_s10 HU_s10
          go_wp2
          go_ret
          exact ⟨rfl, hbs11⟩
end Go.Proofs.YtalfdjglbbmjcabGreatDoor
