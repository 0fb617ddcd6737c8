/- measure: count: how many cells a delta keeps, makes and takes away; Base, Result, Inserted, Deleted, Document. measure: Base, Result, Inserted, Deleted, Document, Concat, Shift. What cells.Each's function hands over, for whatever loop body. cells.List of a document. cells.Check; the document's Check of a cell. cells.Of of any list of cells. What vellumref04.Refuse and Check answer: what an insert is refused with. What vellumref04.copied and vellumref04.Join answer. What vellumref04.Length answers of inserts. What vellumref04.Length, Cells and Newlines answer of inserts. The document's deltas: Same, SameOp, Insert, Len. The document's deltas: push: an operation put behind others. The document's deltas: Canonical: the canonical list of operations. -/
import Derived.Test.YtalfdjglbbmjcabGreatDoorMge
import Derived.Stop.RegionWithIn
import Derived.Test.YtalfdjglbbmjcabGreatDoorMgc
import Derived.Test.YtalfdjglbbmjcabGreatDoorQb
import Derived.Test.YtalfdjglbbmjcabGreatDoorSw
import Derived.Test.YtalfdjglbbmjcabGreatDoorMga
import Derived.Deep.RegionHeld3
import Derived.Test.YtalfdjglbbmjcabGreatDoorCf
import Derived.Deep.DeepCutAuto
import Derived.Test.YtalfdjglbbmjcabGreatDoorMgd
import Derived.Test.YtalfdjglbbmjcabGreatDoorQe
import Derived.Test.YtalfdjglbbmjcabGreatDoorMgb
import Derived.OneCell

/- measure: count: how many cells a delta keeps, makes and takes away; Base, Result, Inserted, Deleted, Document. -/
namespace Go.Proofs.YtalfdjglbbmjcabGreatDoor
open Go Go.RowKit Go.Lib Go.Shelf
set_option linter.unusedVariables false
attribute [local go_sem] Oper.semAt_some

abbrev cnt8 (k i d : Int) : Array Value := #[.int .i64 k, .int .i64 i, .int .i64 d]
theorem tr_below8 {T : TypeId → Prop} {n B : Nat} {w A A' : World} (h : Below n w A) (hn : n ≤ w.heap.size) (hB : n ≤ B) (k : Tr7 T B A A') : Below n w A' :=
  ⟨k.os.trans h.os, k.tape.trans h.tape, k.output.trans h.output, Nat.le_trans h.size k.size, fun j hj => by
    have hl : j < A.heap.size := by have := h.size; omega
    rw [k.kept j A.heap[j] (Array.getElem?_eq_getElem hl) (.inl (by omega)), ← h.block j hj, Array.getElem?_eq_getElem hl]⟩
theorem count_leave (n0 W : World) (D r : Nat) (tmps : Array Value) (k i d : Int) (hp : tmps[2]? = some (.pointer (some ⟨r, 0, none⟩))) (hr : W.heap[r]? = some (.cells (cnt8 k i d) 98 (0, 0)))
    (hK : W.heap[D]? = some (.deferred (some []))) (h1 : n0.heap.size ≤ D) (hb : Below n0.heap.size n0 W) :
    bodyPostM Fence.wide 5 Tryz.prog Tryz.f51 (fun e w' => e = .returned (.agg (cnt8 k i d)) ∧ Below n0.heap.size n0 w') Exit.ret
      { tmps := tmps, defers := [{ target := .collected D, args := #[] }] } W := by
  have hne : r ≠ D := fun e => by subst e; rw [hr] at hK; cases hK
  have hr' : (W.putObj D (.deferred none)).heap[r]? = some (.cells (cnt8 k i d) 98 (0, 0)) := (World.putObj_heap_other hne).trans hr
  have c0 : (W.putObj D (.deferred none)).cell? ⟨r, 0, none⟩ = some (.int .i64 k) := by rw [cell_of_heap hr']; rfl
  have c1 : (W.putObj D (.deferred none)).cell? ⟨r, 1, none⟩ = some (.int .i64 i) := by rw [cell_of_heap hr']; rfl
  have c2 : (W.putObj D (.deferred none)).cell? ⟨r, 2, none⟩ = some (.int .i64 d) := by rw [cell_of_heap hr']; rfl
  refine ⟨by simp, .inl ⟨_, _, rfl, run_takeDeferred hK, ?_⟩⟩
  refine ⟨.agg (cnt8 k i d), ?_, rfl, ?_⟩
  · simp [results, Tryz.results51, go_sem, hp, c0, c1, c2]
  · exact hb.trans (belowK_b (w := n0) (Nat.le_refl _) _ D _ _ h1 hK rfl rfl)
theorem KZ.set8 {pre : List PZ} {x : PZ} {W W' : World} {N j : Nat} {v : Array Value} (b : Below W.heap.size W W') (h : W.heap[N]? = some (.cells v 98 (0, 0))) (u : Value) : KZ pre x W (W'.setCell ⟨N, j, none⟩ u) := by
  have key : ∀ (k : Nat) (o : Obj), W.heap[k]? = some o → k ≠ N → (W'.setCell ⟨N, j, none⟩ u).heap[k]? = some o := fun k o hk n2 => by
    rw [Below.heap_setCell _ _ _ _ (by exact n2), b.block k (Array.getElem?_eq_some_iff.1 hk).1, hk]
  exact ⟨by simp only [World.setCell, Array.size_modify]; exact b.size, fun k cs hk => key k _ hk (fun e => by subst e; rw [h] at hk; cases hk), fun k cs hk _ => key k _ hk (fun e => by subst e; rw [h] at hk; cases hk)⟩
theorem set3_heap8 {W : World} {r : Nat} (h : W.heap[r]? = some (.cells (cnt8 0 0 0) 98 (0, 0))) (a b c : Value) :
    (((W.setCell ⟨r, 0, none⟩ a).setCell ⟨r, 1, none⟩ b).setCell ⟨r, 2, none⟩ c).heap[r]? = some (.cells #[a, b, c] 98 (0, 0)) ∧ (∀ (k : Nat) (o : Obj), W.heap[k]? = some o → k ≠ r → (((W.setCell ⟨r, 0, none⟩ a).setCell ⟨r, 1, none⟩ b).setCell ⟨r, 2, none⟩ c).heap[k]? = some o) ∧ Below r W (((W.setCell ⟨r, 0, none⟩ a).setCell ⟨r, 1, none⟩ b).setCell ⟨r, 2, none⟩ c) := by
  have h1 := heap_set_at W r 0 a _ _ _ h
  have h2 := heap_set_at _ r 1 b _ _ _ h1
  have h3 := heap_set_at _ r 2 c _ _ _ h2
  refine ⟨h3, fun k o hk hn => ?_, (((Below.refl _ _).setCell (p := ⟨r, 0, none⟩) (Nat.le_refl _) _).setCell (p := ⟨r, 1, none⟩) (Nat.le_refl _) _).setCell (p := ⟨r, 2, none⟩) (Nat.le_refl _) _⟩
  rw [Below.heap_setCell _ _ _ _ (by exact hn), Below.heap_setCell _ _ _ _ (by exact hn), Below.heap_setCell _ _ _ _ (by exact hn), hk]
/-- What count has behind some pieces. -/
def CI8 (E : List Op5) (w : World) (r N : Nat) (pre : List PZ) (W : World) : Prop := W.heap[N]? = some (.cells (cnt8 (sumK8 (E.take pre.length)) (sumI8 (E.take pre.length)) (sumD8 (E.take pre.length))) 98 (0, 0)) ∧ W.heap[r]? = some (.cells (cnt8 0 0 0) 98 (0, 0)) ∧ Below w.heap.size w W
theorem sumK8_append (E F : List Op5) : sumK8 (E ++ F) = sumK8 E + sumK8 F := by unfold sumK8; rw [List.map_append, List.sum_append]
theorem sumI8_append (E F : List Op5) : sumI8 (E ++ F) = sumI8 E + sumI8 F := by unfold sumI8; rw [List.map_append, List.sum_append]
theorem sumD8_append (E F : List Op5) : sumD8 (E ++ F) = sumD8 E + sumD8 F := by unfold sumD8; rw [List.map_append, List.sum_append]
theorem others8 {w w' : World} (h : Below w.heap.size w w') : KeepsOthers w w' :=
  ⟨h.size, fun k o hk _ => (h.block k (Array.getElem?_eq_some_iff.1 hk).1).trans hk⟩
/-- Behind a round. -/
theorem ci_step {E : List Op5} {w W W' : World} {r N B j : Nat} {pre : List PZ} {x : PZ} {e : Op5} {u : Int} (hI : CI8 E w r N pre W) (he : E[pre.length]? = some e) (hN : w.heap.size ≤ N) (hrN : r ≠ N) (b : Below W.heap.size W W')
    (hu : (cnt8 (sumK8 (E.take pre.length)) (sumI8 (E.take pre.length)) (sumD8 (E.take pre.length))).setIfInBounds j (.int .i64 u) = cnt8 (sumK8 (E.take pre.length) + kpO8 e) (sumI8 (E.take pre.length) + insO8 e) (sumD8 (E.take pre.length) + dlO8 e)) :
    KeepsFrom B W (W'.setCell ⟨N, j, none⟩ (.int .i64 u)) ∧ KZ pre x W (W'.setCell ⟨N, j, none⟩ (.int .i64 u)) ∧ CI8 E w r N (pre ++ [x]) (W'.setCell ⟨N, j, none⟩ (.int .i64 u)) := by
  obtain ⟨h1, h2, h3⟩ := hI
  have h1' := heap_below b h1
  have hT : E.take (pre ++ [x]).length = E.take pre.length ++ [e] := by rw [List.length_append, List.length_singleton, List.take_add_one, he]; rfl
  refine ⟨((others8 b).trans (KeepsOthers.setCell _ _ _)).from _, KZ.set8 b h1 _, ?_, ?_, (h3.trans (b.mono h3.size)).setCell (p := ⟨N, j, none⟩) hN _⟩
  · rw [heap_set_at W' _ j _ _ _ _ h1', hT, sumK8_append, sumI8_append, sumD8_append]
    have e1 : sumK8 [e] = kpO8 e := by simp [sumK8]
    have e2 : sumI8 [e] = insO8 e := by simp [sumI8]
    have e3 : sumD8 [e] = dlO8 e := by simp [sumD8]
    rw [e1, e2, e3, hu]
  · rw [Below.heap_setCell _ _ _ _ (by exact hrN)]
    exact heap_below b h2
theorem fits_pre8 {E : List Op5} (hw : ∀ o ∈ E, Wel o) (hf : sumB E ≤ 1099511627776 ∧ sumR E ≤ 1099511627776) (k : Nat) : (0 ≤ sumK8 (E.take k) ∧ sumK8 (E.take k) ≤ 1099511627776) ∧ (0 ≤ sumI8 (E.take k) ∧ sumI8 (E.take k) ≤ 1099511627776) ∧ 0 ≤ sumD8 (E.take k) ∧ sumD8 (E.take k) ≤ 1099511627776 := by
  have h1 := sums_three (E := E.take k) fun o ho => hw o (List.mem_of_mem_take ho)
  have h2 := sums_three (E := E.drop k) fun o ho => hw o (List.mem_of_mem_drop ho)
  have h3 := sums_three hw
  have e1 := sumK8_append (E.take k) (E.drop k)
  have e2 := sumI8_append (E.take k) (E.drop k)
  have e3 := sumD8_append (E.take k) (E.drop k)
  rw [List.take_append_drop] at e1 e2 e3
  omega
theorem len_pre8 {E : List Op5} (hg : ∀ o ∈ E, opE o = 0) (hf : sumB E ≤ 1099511627776 ∧ sumR E ≤ 1099511627776) {e : Op5} (he : e ∈ E) : 1 ≤ len5 e ∧ len5 e ≤ 1099511627776 := by
  have hw : ∀ o ∈ E, Wel o := fun o ho => wel_of (hg o ho)
  obtain ⟨h1, h2⟩ := mem_sums hw he
  have hp := len5_pos (hg e he)
  refine ⟨hp, ?_⟩
  unfold baseO resO at *
  rcases (hw e he).kinds with hk | hk | hk | hk <;> simp [hk] at h1 h2 <;> omega
set_option maxHeartbeats 4000000 in
set_option maxRecDepth 100000 in
theorem count8_any {B1 B2 : Nat} (v : Value) (E : List Op5) (w : World) (h : DelV w B1 B2 v E) (hg : ∀ o ∈ E, opE o = 0) (hA : ∀ o ∈ E, o.A.length ≤ 2097152) (hl : E.length ≤ 4194304) (hf : sumB E ≤ 1099511627776 ∧ sumR E ≤ 1099511627776) :
    Calls Tryz.prog 51 #[v] w fun e w' => e = .returned (.agg (cnt8 (sumK8 E) (sumI8 E) (sumD8 E))) ∧ Below w.heap.size w w' := by
  have b1 : Below w.heap.size w ((w.alloc (.cells (cnt8 0 0 0) 98)).alloc (.cells (cnt8 0 0 0) 98)) := ((Below.refl _ _).alloc (Nat.le_refl _) _).alloc (by simp) _
  have n1 : ((w.alloc (.cells (cnt8 0 0 0) 98)).alloc (.cells (cnt8 0 0 0) 98)).heap[w.heap.size + 1]? = some (.cells (cnt8 0 0 0) 98 (0, 0)) := by
    have := heap_alloc_new (w.alloc (.cells (cnt8 0 0 0) 98)) (.cells (cnt8 0 0 0) 98)
    rwa [World.size_alloc] at this
  have n2 : ((w.alloc (.cells (cnt8 0 0 0) 98)).alloc (.cells (cnt8 0 0 0) 98)).heap[w.heap.size]? = some (.cells (cnt8 0 0 0) 98 (0, 0)) :=
    heap_below ((Below.refl _ _).alloc (Nat.le_refl _) _) (heap_alloc_new w _)
  have cE := each7_call v E _ (h.below b1)
  have hw : ∀ o ∈ E, Wel o := fun o ho => wel_of (hg o ho)
  have HE : Hid ((∀ o ∈ E, opE o = 0) ∧ (∀ o ∈ E, o.A.length ≤ 2097152) ∧ E.length ≤ 4194304 ∧ (sumB E ≤ 1099511627776 ∧ sumR E ≤ 1099511627776) ∧ ∀ o ∈ E, Wel o) := ⟨hg, hA, hl, hf, hw⟩
  have H1 : Hid (CI8 E w w.heap.size (w.heap.size + 1) [] ((w.alloc (.cells (cnt8 0 0 0) 98)).alloc (.cells (cnt8 0 0 0) 98))) := ⟨n1, n2, b1⟩
  obtain ⟨q, pv, PL, rfl, _⟩ := h
  clear hg hA hl hf hw b1 n1 n2
  refine (callsIn_wide (n := 5)).1 ?_
  refine callsIn_of_wp_marks Tryz.func51 rfl trivial ?_ rfl
  simp only [Tryz.ntmps51, List.size_toArray, List.length_cons, List.length_nil, Nat.reduceAdd, Nat.reduceSub, Array.replicate_succ, Array.replicate_zero, List.push_toArray, List.append_toArray, List.nil_append, List.cons_append]
  rw [wpIn_wide]
  go_wp2_with fail
  refine cE.mono ?_; rintro r w2 ⟨x, rfl, hx, -, b2⟩
  have H2 : Hid (CI8 E w w.heap.size (w.heap.size + 1) [] w2 ∧ BoxD w2 x B1 B2 E) := ⟨⟨heap_below b2 H1.out.1, heap_below b2 H1.out.2.1, H1.out.2.2.trans (b2.mono H1.out.2.2.size)⟩, hx⟩
  have hsz : w.heap.size + 1 < w2.heap.size := (Array.getElem?_eq_some_iff.1 H2.out.1.1).1
  clear cE hx b2 H1
  go_wp2_with fail
  refine (wpIn_wide (n := 5)).1 ?_
  refine wpIn_rangeFunc_G (encs := encZ) rfl (by decide) (gf := 93) (lb := #[.pointer (some ⟨x, 0, none⟩)]) rfl trivial (enters_of Tryz.func93 (by kernel_rfl) rfl)
    (each7_seq E w2 x B1 B2 H2.out.2 HE.out.1 HE.out.2.1 HE.out.2.2.1 4 (by decide)) (Below.refl _ _) (fun _ => rfl) (fun pre x A A' h k => h.bk k) (fun pre x A A' B B' k1 h k2 => KZ.bk k1 h k2)
    (CI8 E w w.heap.size (w.heap.size + 1)) (fun _ _ _ => False)
    (fun s A A' h k => ⟨k.kept _ _ h.1 (.inl hsz), k.kept _ _ h.2.1 (.inl (by omega)), tr_below8 h.2.2 (Nat.le_refl _) (by omega) k⟩) (fun _ _ _ _ h _ => h) H2.out.1 ?a1 ?assign ?body ?done ?stop
  case assign =>
    intro l x W K hK
    gi_wp2
    exact hK
  case body =>
    rintro l pre x W hI ⟨e, s', he, hx, _⟩
    obtain ⟨x1, xlo, xhi⟩ := x
    simp only at hx
    subst hx
    have HI : Hid (CI8 E w w.heap.size (w.heap.size + 1) pre W ∧ E[pre.length]? = some e) := ⟨hI, he⟩
    have hge := HE.out.1 e (List.mem_of_getElem? he)
    obtain ⟨K, hK⟩ : ∃ x, sumK8 (E.take pre.length) = x := ⟨_, rfl⟩
    obtain ⟨I, hI'⟩ : ∃ x, sumI8 (E.take pre.length) = x := ⟨_, rfl⟩
    obtain ⟨D, hD⟩ : ∃ x, sumD8 (E.take pre.length) = x := ⟨_, rfl⟩
    have hc := HI.out.1.1
    rw [hK, hI', hD] at hc
    have c0 : W.cell? ⟨w.heap.size + 1, 0, none⟩ = some (.int .i64 K) := by rw [cell_of_heap hc]; rfl
    have c1 : W.cell? ⟨w.heap.size + 1, 1, none⟩ = some (.int .i64 I) := by rw [cell_of_heap hc]; rfl
    have c2 : W.cell? ⟨w.heap.size + 1, 2, none⟩ = some (.int .i64 D) := by rw [cell_of_heap hc]; rfl
    have HC : Hid (∀ W', Below W.heap.size W W' → (W'.cell? ⟨w.heap.size + 1, 0, none⟩ = some (.int .i64 K) ∧ W'.cell? ⟨w.heap.size + 1, 1, none⟩ = some (.int .i64 I) ∧ W'.cell? ⟨w.heap.size + 1, 2, none⟩ = some (.int .i64 D)) ∧ W'.frozen? ⟨w.heap.size + 1, 0, none⟩ = false ∧ W'.frozen? ⟨w.heap.size + 1, 1, none⟩ = false ∧ W'.frozen? ⟨w.heap.size + 1, 2, none⟩ = false) := fun W' hb => ⟨⟨(hb.cell (lt_of_cell c0)).trans c0, (hb.cell (lt_of_cell c1)).trans c1, (hb.cell (lt_of_cell c2)).trans c2⟩, frozen_of_heap (heap_below hb hc) 0, frozen_of_heap (heap_below hb hc) 1, frozen_of_heap (heap_below hb hc) 2⟩
    have bd : Below W.heap.size W W.drew := (Below.refl _ _).drew
    have md := HC.out _ bd
    obtain ⟨L, hL⟩ : ∃ x, len5 e = x := ⟨_, rfl⟩
    have hr : ((0 ≤ K ∧ K ≤ 1099511627776) ∧ (0 ≤ I ∧ I ≤ 1099511627776) ∧ (0 ≤ D ∧ D ≤ 1099511627776)) ∧ 1 ≤ L ∧ L ≤ 1099511627776 := by
      have h1 := fits_pre8 HE.out.2.2.2.2 HE.out.2.2.2.1 pre.length
      have h2 := len_pre8 HE.out.1 HE.out.2.2.2.1 (List.mem_of_getElem? he)
      rw [hK, hI', hD] at h1
      rw [hL] at h2
      exact ⟨h1, h2⟩
    replace hK : Hid (sumK8 (E.take pre.length) = K ∧ sumI8 (E.take pre.length) = I ∧ sumD8 (E.take pre.length) = D ∧ len5 e = L) := ⟨hK, hI', hD, hL⟩
    clear hI he hc c0 c1 c2 hI' hD
    rcases kinds_of hge with hk | hk | hk | hk
    · have hu : Hid (kpO8 e = 0 ∧ insO8 e = len5 e ∧ dlO8 e = 0) := by show _ ∧ _ ∧ _; unfold kpO8 dlO8 insO8; simp [hk]
      have hl := (len5_1 hk).symm.trans hL
      rw [pieceQ_1 hk]
      have a0 := as_i_r
      have a1 := as_i_d
      rw [hl]
      have hz : IntKind.i64.wrap (I + L) = I + L := by rw [IntKind.wrap_i64]; omega
      have hm : ∀ W : World, (method 333 159 (.agg #[s', .string e.t, .int .i64 L]) "Len").run Tryz.prog W = .ok (162, .agg #[s', .string e.t, .int .i64 L]) W := fun _ => by kernel_rfl
      have cLen : Hid (∀ W', Below W.heap.size W W' → Calls Tryz.prog 162 #[.agg #[s', .string e.t, .int .i64 L]] W' fun r w' => r = .returned (.int .i64 L) ∧ Below W.heap.size W w') := fun W' hW => from_below hW (ilen_any s' e.t L W')
      clear hk hl
      gi_wp2
      gi_region_with (refine ⟨trivial, (CallsIn.inRound l (callsIn_wide.2 (cLen.out _ bd))).mono ?_⟩; rintro r wA ⟨rfl, bA⟩; have mA := HC.out wA bA)
      all_goals (gi_wp2)
      all_goals exact ci_step HI.out.1 HI.out.2 (by omega) (by omega) bA (by rw [hK.out.1, hK.out.2.1, hK.out.2.2.1, hu.out.1, hu.out.2.1, hu.out.2.2, hK.out.2.2.2]; simp)
    · have hu : Hid (kpO8 e = 0 ∧ insO8 e = len5 e ∧ dlO8 e = 0) := by show _ ∧ _ ∧ _; unfold kpO8 dlO8 insO8; simp [hk]
      have hl := (len5_2 hk).symm.trans hL
      rw [pieceQ_2 hk]
      have a0 := as_e_r
      have a1 := as_e_d
      obtain ⟨V, hV⟩ : ∃ V, valP e.v = V := ⟨_, rfl⟩
      rw [hV]
      have hz : IntKind.i64.wrap (I + L) = I + L := by rw [IntKind.wrap_i64]; omega
      have hm : ∀ W : World, (method 333 164 (.agg #[s', .string e.t, V]) "Len").run Tryz.prog W = .ok (164, .agg #[s', .string e.t, V]) W := fun _ => by kernel_rfl
      have cLen : Hid (∀ W', Below W.heap.size W W' → Calls Tryz.prog 164 #[.agg #[s', .string e.t, V]] W' fun r w' => r = .returned (.int .i64 L) ∧ Below W.heap.size W w') := fun W' hW => from_below hW (by have := elen_any V s' e.t W'; rw [hl] at this; exact this)
      clear hk hl
      gi_wp2
      gi_region_with (refine ⟨trivial, (CallsIn.inRound l (callsIn_wide.2 (cLen.out _ bd))).mono ?_⟩; rintro r wA ⟨rfl, bA⟩; have mA := HC.out wA bA)
      all_goals (gi_wp2)
      all_goals exact ci_step HI.out.1 HI.out.2 (by omega) (by omega) bA (by rw [hK.out.1, hK.out.2.1, hK.out.2.2.1, hu.out.1, hu.out.2.1, hu.out.2.2, hK.out.2.2.2]; simp)
    · have hu : Hid (kpO8 e = len5 e ∧ insO8 e = 0 ∧ dlO8 e = 0) := by show _ ∧ _ ∧ _; unfold kpO8 dlO8 insO8; simp [hk]
      have hl := (len5_3 (.inl hk)).symm.trans hL
      rw [pieceQ_3 hk]
      have a0 := as_r_r
      have a1 := as_r_d
      rw [hl]
      have hz : IntKind.i64.wrap (K + L) = K + L := by rw [IntKind.wrap_i64]; omega
      have hm : ∀ W : World, (method 333 142 (.agg #[s', .int .i64 L]) "Len").run Tryz.prog W = .ok (160, .agg #[s', .int .i64 L]) W := fun _ => by kernel_rfl
      have cLen : Hid (∀ W', Below W.heap.size W W' → Calls Tryz.prog 160 #[.agg #[s', .int .i64 L]] W' fun r w' => r = .returned (.int .i64 L) ∧ Below W.heap.size W w') := fun W' hW => from_below hW (rlen_any s' L W')
      clear hk hl
      gi_wp2
      gi_region_with (refine ⟨trivial, (CallsIn.inRound l (callsIn_wide.2 (cLen.out _ bd))).mono ?_⟩; rintro r wA ⟨rfl, bA⟩; have mA := HC.out wA bA)
      all_goals (gi_wp2)
      all_goals exact ci_step HI.out.1 HI.out.2 (by omega) (by omega) bA (by rw [hK.out.1, hK.out.2.1, hK.out.2.2.1, hu.out.1, hu.out.2.1, hu.out.2.2, hK.out.2.2.2]; simp)
    · have hu : Hid (kpO8 e = 0 ∧ insO8 e = 0 ∧ dlO8 e = len5 e) := by show _ ∧ _ ∧ _; unfold kpO8 dlO8 insO8; simp [hk]
      have hl := (len5_3 (.inr hk)).symm.trans hL
      rw [pieceQ_4 hk]
      have a0 := as_d_r
      have a1 := as_d_d
      rw [hl]
      have hz : IntKind.i64.wrap (D + L) = D + L := by rw [IntKind.wrap_i64]; omega
      have hm : ∀ W : World, (method 333 126 (.agg #[.int .i64 L]) "Len").run Tryz.prog W = .ok (158, .agg #[.int .i64 L]) W := fun _ => by kernel_rfl
      have cLen : Hid (∀ W', Below W.heap.size W W' → Calls Tryz.prog 158 #[.agg #[.int .i64 L]] W' fun r w' => r = .returned (.int .i64 L) ∧ Below W.heap.size W w') := fun W' hW => from_below hW (dlen_any L W')
      clear hk hl
      gi_wp2
      gi_region_with (refine ⟨trivial, (CallsIn.inRound l (callsIn_wide.2 (cLen.out _ bd))).mono ?_⟩; rintro r wA ⟨rfl, bA⟩; have mA := HC.out wA bA)
      all_goals (gi_wp2)
      all_goals exact ci_step HI.out.1 HI.out.2 (by omega) (by omega) bA (by rw [hK.out.1, hK.out.2.1, hK.out.2.2.1, hu.out.1, hu.out.2.1, hu.out.2.2, hK.out.2.2.2]; simp)
  case stop => intro D c pre W _ h; exact h.elim
  case done =>
    rintro D xs W hD hS ⟨hN, hR, hB⟩ hK
    rw [hS, List.take_length] at hN
    have c0 : W.cell? ⟨w.heap.size + 1, 0, none⟩ = some (.int .i64 (sumK8 E)) := by rw [cell_of_heap hN]; rfl
    have c1 : W.cell? ⟨w.heap.size + 1, 1, none⟩ = some (.int .i64 (sumI8 E)) := by rw [cell_of_heap hN]; rfl
    have c2 : W.cell? ⟨w.heap.size + 1, 2, none⟩ = some (.int .i64 (sumD8 E)) := by rw [cell_of_heap hN]; rfl
    have r0 : W.cell? ⟨w.heap.size, 0, none⟩ = some (.int .i64 0) := by rw [cell_of_heap hR]; rfl
    have r1 : W.cell? ⟨w.heap.size, 1, none⟩ = some (.int .i64 0) := by rw [cell_of_heap hR]; rfl
    have r2 : W.cell? ⟨w.heap.size, 2, none⟩ = some (.int .i64 0) := by rw [cell_of_heap hR]; rfl
    have f0 := frozen_of_heap hR 0
    have f1 := frozen_of_heap hR 1
    have f2 := frozen_of_heap hR 2
    have HF : Hid (w.heap.size ≤ D ∧ W.heap[D]? = some (.deferred (some [])) ∧ W.heap[w.heap.size]? = some (.cells (cnt8 0 0 0) 98 (0, 0)) ∧ Below w.heap.size w W) := ⟨by omega, hK, hR, hB⟩
    clear hN hS hR hB hK hD
    gi_wp2
    go_wp2
    obtain ⟨z1, z2, z3, z4⟩ := HF.out
    obtain ⟨y1, y2, y3⟩ := set3_heap8 z3 (.int .i64 (sumK8 E)) (.int .i64 (sumI8 E)) (.int .i64 (sumD8 E))
    exact count_leave w _ D w.heap.size _ _ _ _ rfl y1 (y2 D _ z2 (fun e => by subst e; rw [z3] at z2; cases z2)) z1 (z4.trans y3)
end Go.Proofs.YtalfdjglbbmjcabGreatDoor

/- measure: Base, Result, Inserted, Deleted, Document, Concat, Shift. -/
namespace Go.Proofs.YtalfdjglbbmjcabGreatDoor
open Go Go.RowKit Go.Lib
set_option linter.unusedVariables false

theorem cbase_any (k i d : Int) (w : World) (h : (0 ≤ k ∧ k ≤ 1099511627776) ∧ 0 ≤ d ∧ d ≤ 1099511627776) :
    Calls Tryz.prog 76 #[.agg (cnt8 k i d)] w fun e w' => e = .returned (.int .i64 (k + d)) ∧ Below w.heap.size w w' := by
  have hz : IntKind.i64.wrap (k + d) = k + d := by rw [IntKind.wrap_i64]; omega
  go_enter Tryz.func76, Tryz.ntmps76
  go_wp2
  go_ret
  exact ⟨rfl, (Below.refl _ _).alloc (Nat.le_refl _) _⟩
theorem cresult_any (k i d : Int) (w : World) (h : (0 ≤ k ∧ k ≤ 1099511627776) ∧ 0 ≤ i ∧ i ≤ 1099511627776) :
    Calls Tryz.prog 52 #[.agg (cnt8 k i d)] w fun e w' => e = .returned (.int .i64 (k + i)) ∧ Below w.heap.size w w' := by
  have hz : IntKind.i64.wrap (k + i) = k + i := by rw [IntKind.wrap_i64]; omega
  go_enter Tryz.func52, Tryz.ntmps52
  go_wp2
  go_ret
  exact ⟨rfl, (Below.refl _ _).alloc (Nat.le_refl _) _⟩
/-- What is known of a delta's list. -/
structure DlE (w : World) (B1 B2 : Nat) (v : Value) (E : List Op5) : Prop where
  d : DelV w B1 B2 v E
  g : ∀ o ∈ E, opE o = 0
  fit : ∀ o ∈ E, FitA o
  len : E.length ≤ 2097152
  txt : txtS E ≤ 4194304
  fits : Fits8 E
theorem DlE.below {w w' : World} {B1 B2 : Nat} {v : Value} {E : List Op5} (h : DlE w B1 B2 v E) (b : Below w.heap.size w w') : DlE w' B1 B2 v E := ⟨h.d.below b, h.g, h.fit, h.len, h.txt, h.fits⟩
theorem DlE.wel {w : World} {B1 B2 : Nat} {v : Value} {E : List Op5} (h : DlE w B1 B2 v E) : ∀ o ∈ E, Wel o := fun o ho => wel_of (h.g o ho)
theorem DlE.n {w : World} {B1 B2 : Nat} {v : Value} {E : List Op5} (h : DlE w B1 B2 v E) : ∀ o ∈ E, o.A.length ≤ 2097152 := fun o ho => by have := (h.fit o ho).n; omega
theorem DlE.sums {w : World} {B1 B2 : Nat} {v : Value} {E : List Op5} (h : DlE w B1 B2 v E) : (0 ≤ sumK8 E ∧ sumK8 E ≤ 1099511627776) ∧ (0 ≤ sumI8 E ∧ sumI8 E ≤ 1099511627776) ∧ (0 ≤ sumD8 E ∧ sumD8 E ≤ 1099511627776) ∧ sumB E = sumK8 E + sumD8 E ∧ sumR E = sumK8 E + sumI8 E := by
  have h1 := sums_three h.wel
  have h2 := h.fits
  unfold Fits8 at h2
  omega
theorem count_any8 {B1 B2 : Nat} (v : Value) (E : List Op5) (w : World) (h : DlE w B1 B2 v E) :
    Calls Tryz.prog 51 #[v] w fun e w' => e = .returned (.agg (cnt8 (sumK8 E) (sumI8 E) (sumD8 E))) ∧ Below w.heap.size w w' :=
  count8_any v E w h.d h.g h.n (Nat.le_trans h.len (by decide)) h.fits
theorem base8_any {B1 B2 : Nat} (v : Value) (E : List Op5) (w : World) (h : DlE w B1 B2 v E) :
    Calls Tryz.prog 55 #[v] w fun e w' => e = .returned (.int .i64 (sumB E)) ∧ Below w.heap.size w w' := by
  have c := count_any8 v E w h
  have hs := h.sums
  have c2 := fun W => cbase_any (sumK8 E) (sumI8 E) (sumD8 E) W ⟨hs.1, hs.2.2.1⟩
  rw [← hs.2.2.2.1] at c2
  obtain ⟨q, pv, PL, rfl, _⟩ := h.d
  clear hs h
  go_enter Tryz.func55, Tryz.ntmps55
  go_wp2_with fail
  refine c.mono ?_; rintro r w2 ⟨rfl, b2⟩
  go_wp2_with fail
  refine (c2 _).mono ?_; rintro r w3 ⟨rfl, b3⟩
  have b := b2.trans (b3.mono b2.size)
  go_wp2
  go_ret
  exact ⟨rfl, b⟩
theorem result8_any {B1 B2 : Nat} (v : Value) (E : List Op5) (w : World) (h : DlE w B1 B2 v E) :
    Calls Tryz.prog 24 #[v] w fun e w' => e = .returned (.int .i64 (sumR E)) ∧ Below w.heap.size w w' := by
  have c := count_any8 v E w h
  have hs := h.sums
  have c2 := fun W => cresult_any (sumK8 E) (sumI8 E) (sumD8 E) W ⟨hs.1, hs.2.1⟩
  rw [← hs.2.2.2.2] at c2
  obtain ⟨q, pv, PL, rfl, _⟩ := h.d
  clear hs h
  go_enter Tryz.func24, Tryz.ntmps24
  go_wp2_with fail
  refine c.mono ?_; rintro r w2 ⟨rfl, b2⟩
  go_wp2_with fail
  refine (c2 _).mono ?_; rintro r w3 ⟨rfl, b3⟩
  have b := b2.trans (b3.mono b2.size)
  go_wp2
  go_ret
  exact ⟨rfl, b⟩
theorem doc8_any {B1 B2 : Nat} (v : Value) (E : List Op5) (w : World) (h : DlE w B1 B2 v E) :
    Calls Tryz.prog 29 #[v] w fun e w' => e = .returned (.bool (sumB E == 0)) ∧ Below w.heap.size w w' := by
  have c := base8_any v E w h
  obtain ⟨q, pv, PL, rfl, _⟩ := h.d
  clear h
  go_enter Tryz.func29, Tryz.ntmps29
  go_wp2_with fail
  refine c.mono ?_; rintro r w2 ⟨rfl, b2⟩
  go_wp2
  go_ret
  exact ⟨rfl, b2⟩
theorem pieD_append {w : World} {B : Nat} {P1 P2 : List Value} {E F : List Op5} (h : PieD w B P1 E) (k : PieD w B P2 F) : PieD w B (P1 ++ P2) (E ++ F) := forall2_append h k
theorem cat_bounds {E F : List Op5} (gE : ∀ o ∈ E, opE o = 0) (gF : ∀ o ∈ F, opE o = 0) : ∀ o ∈ E ++ F, opE o = 0 := fun o ho => (List.mem_append.1 ho).elim (gE o) (gF o)
/-- What Concat answers. -/
def CatR (a : Nat → Addr) (w w' : World) (L : List Op5) (dv er : Value) : Prop :=
  (Fits8 L → er = .nilIface ∧ DelV w' w.heap.size w.heap.size dv (canonL L)) ∧ (¬ Fits8 L → er = errV a 10 ∧ dv = .pointer none)
theorem delV_low {w : World} {B1 B2 C : Nat} {v : Value} {E : List Op5} (h : DelV w B1 B2 v E) (h1 : C ≤ B1) (h2 : C ≤ B2) : DelV w C C v E := by
  obtain ⟨q, pv, PL, x1, x2, x3, x4, x5⟩ := h
  exact ⟨q, pv, PL, x1, Nat.le_trans h1 x2, x3, own_weaken x4 h1, x5.weaken h2⟩
set_option maxHeartbeats 2000000 in
set_option maxRecDepth 100000 in
theorem concat8_any {I : List Nat} {a : Nat → Addr} {B1 B2 C1 C2 : Nat} (v u : Value) (E F : List Op5) (w : World) (hI : ∀ i ∈ IxO, i ∈ I) (hS : Std I a w) (hE : DlE w B1 B2 v E) (hF : DlE w C1 C2 u F) (hl : E.length + F.length ≤ 2097152) :
    Calls Tryz.prog 31 #[v, u] w fun r w' => ∃ dv er, r = .returned (.tuple #[dv, er]) ∧ CatR a w w' (E ++ F) dv er ∧ Below w.heap.size w w' := by
  have c1 := pieces_any v E w hE.d hE.g hE.n (Nat.le_trans hE.len (by decide))
  have HF : Hid (DlE w C1 C2 u F ∧ DlE w B1 B2 v E) := ⟨hF, hE⟩
  have HG : Hid (∀ (g : Value) (PL : List Value) (B D : Nat) W, Below w.heap.size w W → OwnI W B g PL → PieD W D PL (E ++ F) → Calls Tryz.prog 57 #[g] W fun r w' => ∃ dv er, r = .returned (.tuple #[dv, er]) ∧ Hid (CatR a w w' (E ++ F) dv er) ∧ Below w.heap.size w w') := fun g PL B D W hb h1 h2 => by
    have ht := hE.txt
    have ht2 := hF.txt
    refine (gath8_any g PL (E ++ F) W hI (hS.below hb) h1 h2 (cat_bounds hE.g hF.g) (fun o ho => (List.mem_append.1 ho).elim (hE.fit o) (hF.fit o)) (by rw [List.length_append]; exact hl) (by rw [txtS_append]; omega)).mono ?_
    rintro r w' ⟨dv, er, rfl, x1, x2, x3⟩
    exact ⟨dv, er, rfl, ⟨fun h => ⟨(x1 h).1, delV_low (x1 h).2 hb.size hb.size⟩, x2⟩, hb.trans (x3.mono hb.size)⟩
  obtain ⟨q1, pv1, PL1, rfl, _⟩ := hE.d
  obtain ⟨q2, pv2, PL2, rfl, _⟩ := hF.d
  clear hE hF hS
  go_enter Tryz.func31, Tryz.ntmps31
  go_wp2_with fail
  refine c1.mono ?_; rintro r w2 ⟨v2, rfl, ⟨P, own2, pie2⟩, b2⟩
  obtain ⟨p2, n2, rfl⟩ := own_slice own2
  have H2 : Hid (OwnI w2 w.heap.size (.slice p2 P.length n2) P ∧ PieD w2 w.heap.size P E) := ⟨own2, pie2⟩
  have h3 := HF.out.1.below b2
  have c2 := pieces_any _ F w2 h3.d h3.g h3.n (Nat.le_trans h3.len (by decide))
  clear c1 own2 pie2 h3
  go_wp2_with fail
  refine c2.mono ?_; rintro r w3 ⟨v3, rfl, ⟨Q, own3, pie3⟩, b3⟩
  obtain ⟨p3, n3, rfl⟩ := own_slice own3
  have ba : Below w3.heap.size w3 (w3.alloc (.cells #[.slice p2 P.length n2, .slice p3 Q.length n3] 87)) := (Below.refl _ _).alloc (Nat.le_refl _) _
  have b03 := b2.trans (b3.mono b2.size)
  have b04 := b03.trans (ba.mono b03.size)
  have H4 : Hid (OwnI (w3.alloc (.cells #[.slice p2 P.length n2, .slice p3 Q.length n3] 87)) w.heap.size (.slice p2 P.length n2) P ∧ OwnI (w3.alloc (.cells #[.slice p2 P.length n2, .slice p3 Q.length n3] 87)) w2.heap.size (.slice p3 Q.length n3) Q ∧ PieD (w3.alloc (.cells #[.slice p2 P.length n2, .slice p3 Q.length n3] 87)) w.heap.size (P ++ Q) (E ++ F)) :=
    ⟨owns_below (owns_below H2.out.1 b3) ba, owns_below own3 ba, pieD_append ((H2.out.2.below b3).below ba) ((pie3.weaken b2.size).below ba)⟩
  have hlP : P.length = E.length := forall2_len H2.out.2
  have hlQ : Q.length = F.length := forall2_len pie3
  have c3 := conc8_any (.slice p2 P.length n2) (.slice p3 Q.length n3) P Q w3.heap.size 2 (w3.alloc (.cells #[.slice p2 P.length n2, .slice p3 Q.length n3] 87)) (by simp) (by simp) H4.out.1 H4.out.2.1 (pie_one H2.out.2) (pie_one pie3) (by omega) (Nat.le_refl _)
  clear c2 own3 pie3 H2 hlP hlQ b03 b2 b3
  go_wp2_with fail
  refine c3.mono ?_; rintro r w5 ⟨v5, rfl, own5, b5⟩
  obtain ⟨p5, n5, e5⟩ := own_slice own5
  obtain ⟨m5, hm5⟩ : ∃ m, (P ++ Q).length = m := ⟨_, rfl⟩
  rw [hm5] at e5
  have c4 := HG.out v5 (P ++ Q) _ _ w5 (b04.trans (b5.mono b04.size)) own5 (H4.out.2.2.below b5)
  subst e5
  clear c3 own5 ba H4 HG hm5
  go_wp2_with fail
  refine c4.mono ?_; rintro r w6 ⟨dv, er, rfl, hR, b6⟩
  clear c4 b5 b04
  by_cases hf : Fits8 (E ++ F)
  · obtain ⟨rfl, hd⟩ := hR.out.1 hf
    obtain ⟨q, pv, PL, rfl, _⟩ := id hd
    clear hd hf
    go_wp2
    go_ret2
    exact ⟨_, _, rfl, hR.out, b6⟩
  · obtain ⟨rfl, rfl⟩ := hR.out.2 hf
    clear hf
    go_wp2
    go_ret2
    exact ⟨_, _, rfl, hR.out, b6⟩
end Go.Proofs.YtalfdjglbbmjcabGreatDoor

/- What cells.Each's function hands over, for whatever loop body. -/
namespace Go.Proofs.YtalfdjglbbmjcabGreatDoor
open Go Go.RowKit Go.Lib Go.Shelf
set_option linter.unusedVariables false
attribute [local go_sem] Oper.semAt_some

theorem roundIn_any9 {n m l l1 l2 : Nat} {P : Program} {f : FuncId} {tmps : Array Value} {assign body : Code} {w : World} {R : Ending → World → Prop} (h : RoundIn Fence.wide n P l f tmps assign body w R) : RoundIn ((Fence.wide.inRound l1).inRound l2) m P l f tmps assign body w R :=
  ⟨h.1, fun c cs _ => h.2 c cs (fun _ h => (by cases h))⟩
/-- A cell that is told, with its number. -/
abbrev EZ : Type := Nat × CZ
abbrev encE9 (x : EZ) : Array Value := #[.int .i64 x.1, ceV x.2.1]
def GE9 (L : List C5) (B0 : Nat) (pre : List EZ) (x : EZ) (W : World) : Prop := x.1 = pre.length ∧ ∃ e, L[pre.length]? = some e ∧ x.2.1.1 = e.1 ∧ x.2.1.2.1 = e.2.1 ∧ x.2.1.2.2.1 = e.2.2.1 ∧ InA W x.2.2.1 x.2.2.2 (slV x.2.1.2.2.2) e.2.2.2 ∧ B0 ≤ x.2.2.1 ∧ x.2.2.2 ≤ W.heap.size
/-- What a round keeps. -/
structure KE9 (B0 : Nat) (pre : List EZ) (x : EZ) (A A' : World) : Prop where
  size : A.heap.size ≤ A'.heap.size
  own : ∀ (k : Nat) (cs : Array Value) (t : TypeId), A.heap[k]? = some (.cells cs t (0, 0)) → (t = 159 ∨ t = 164 ∨ t = 91 ∨ (B0 ≤ k ∧ t ≠ 30 ∧ t ≠ 66)) → A'.heap[k]? = some (.cells cs t (0, 0))
  ite : ∀ (k : Nat) (t : ByteArray) (p : Nat), A.heap[k]? = some (.stringIter t p) → A'.heap[k]? = some (.stringIter t p)
  att : ∀ (k : Nat) (cs : Array Value), A.heap[k]? = some (.cells cs 66 (0, 0)) → (k < x.2.2.1 ∨ x.2.2.2 ≤ k) → A'.heap[k]? = some (.cells cs 66 (0, 0))
theorem GE9.bk {L : List C5} {B0 B C : Nat} {pre : List EZ} {x : EZ} {A A' : World} (h : GE9 L B0 pre x A) (k : Bk9 B C A A') : GE9 L B0 pre x A' := by
  obtain ⟨h0, e, h1, h2, h3, h4, h5, h6, h7⟩ := h
  exact ⟨h0, e, h1, h2, h3, h4, ina_same h5 fun j cs hj _ _ => k.cells hj, h6, Nat.le_trans h7 k.size⟩
theorem KE9.bk {B0 B Z : Nat} {pre : List EZ} {x : EZ} {A A' C C' : World} (k1 : Bk9 B Z A A') (h : KE9 B0 pre x A' C) (k2 : Bk9 B Z C C') : KE9 B0 pre x A C' :=
  ⟨Nat.le_trans k1.size (Nat.le_trans h.size k2.size), fun k cs t hk ht => k2.cells (h.own k cs t (k1.cells hk) ht), fun k t p hk => k2.ite (h.ite k t p (k1.ite hk)), fun k cs hk ho => k2.cells (h.att k cs (k1.cells hk) ho)⟩
/-- What the two loops keep: the yield function in its box, the number in its. -/
structure St9 (l F I : Nat) (J : List EZ → World → Prop) (xs : List EZ) (W : World) : Prop where
  j : J xs W
  f : W.heap[F]? = some (.cells #[.func (.yield l) #[] #[]] 132 (0, 0))
  i : W.heap[I]? = some (.cells #[.int .i64 xs.length] 3 (0, 0))
theorem KZ.step9 {pre : List PZ} {x : PZ} {A B C : World} (h : KZ pre x A B) (hs : B.heap.size ≤ C.heap.size) (hp : ∀ (k : Nat) (cs : Array Value), B.heap[k]? = some (.cells cs 91 (0, 0)) → C.heap[k]? = some (.cells cs 91 (0, 0))) (ha : ∀ (k : Nat) (cs : Array Value), k < A.heap.size → B.heap[k]? = some (.cells cs 66 (0, 0)) → C.heap[k]? = some (.cells cs 66 (0, 0))) : KZ pre x A C :=
  ⟨Nat.le_trans h.size hs, fun k cs hk => hp k cs (h.pie k cs hk), fun k cs hk ho => ha k cs (Array.getElem?_eq_some_iff.1 hk).1 (h.att k cs hk ho)⟩
theorem tr7_set9 {T : TypeId → Prop} {B I : Nat} {W : World} {cs : Array Value} {t : TypeId} (hI : W.heap[I]? = some (.cells cs t (0, 0))) (hB : B ≤ I) (ht : T t) (j : Nat) (u : Value) : Tr7 T B W (W.setCell ⟨I, j, none⟩ u) :=
  ⟨rfl, rfl, rfl, by simp, fun k o hk ho => by
    have hne : k ≠ I := fun e => by
      subst e; rw [hI] at hk; cases hk
      rcases ho with ho | ⟨_, _, _, e, hn⟩
      · omega
      · cases e; exact hn ht
    exact (Below.heap_setCell _ _ _ _ hne).trans hk⟩

theorem St9.tr {l F I B C : Nat} {J : List EZ → World → Prop} {xs : List EZ} {A A' : World} (h : St9 l F I J xs A) (hJ : ∀ q W1 W2, J q W1 → Tr7 (fun t => t = 3) C W1 W2 → J q W2) (k : Tr7 (fun _ => False) B A A') (hB : C ≤ B) (hFI : F < B ∧ I < B) : St9 l F I J xs A' :=
  ⟨hJ _ _ _ h.j (k.mono (fun _ h => h.elim) hB), k.kept _ _ h.f (.inl hFI.1), k.kept _ _ h.i (.inl hFI.2)⟩
theorem tr7_put9 {T : TypeId → Prop} {B D : Nat} {W : World} {o o' : Obj} (hK : W.heap[D]? = some o) (hB : B ≤ D) (ho : o.isCells = false := by rfl) : Tr7 T B W (W.putObj D o') :=
  ⟨rfl, rfl, rfl, by simp, fun k x hk hx => by
    have : k ≠ D := fun e => by
      subst e; rw [hK] at hk; cases hk
      rcases hx with hx | ⟨_, _, _, e, _⟩
      · omega
      · rw [e] at ho; cases ho
    exact (World.putObj_heap_other this).trans hk⟩
theorem doc_base9 {E : List Op5} (hg : ∀ o ∈ E, opE o = 0) (h : sumB E = 0) : ∀ o ∈ E, Ins o := fun o ho => by
  have hw : ∀ x ∈ E, Wel x := fun x hx => wel_of (hg x hx)
  obtain ⟨h1, _⟩ := mem_sums hw ho
  rw [h] at h1
  have hp := len5_pos (hg o ho)
  have hk := (hw o ho).kinds
  have h2 : o.k = 1 ∨ o.k = 2 := by
    unfold baseO at h1
    rcases hk with hk | hk | hk | hk
    · exact .inl hk
    · exact .inr hk
    · simp [hk] at h1; omega
    · simp [hk] at h1; omega
  rcases op_good (hg o ho) with ⟨h3, _⟩ | ⟨_, _, h3⟩ | ⟨_, _, h3⟩
  · exact h3
  · omega
  · omega
theorem cells_at9 {E : List Op5} {j k : Nat} {e : Op5} {c : C5} (he : E[j]? = some e) (hc : (cellsOf e)[k]? = some c) : (cellsL E)[(cellsL (E.take j)).length + k]? = some c := by
  have h1 : cellsL E = cellsL (E.take j) ++ (cellsOf e ++ cellsL (E.drop (j + 1))) := by
    obtain ⟨hj, rfl⟩ := List.getElem?_eq_some_iff.1 he
    conv => lhs; rw [← List.take_append_drop j E, List.drop_eq_getElem_cons hj]
    unfold cellsL
    rw [List.flatMap_append, List.flatMap_cons]
  rw [h1, List.getElem?_append_right (by omega), Nat.add_sub_cancel_left, List.getElem?_append_left (List.getElem?_eq_some_iff.1 hc).1]
  exact hc
theorem eachC_leave {n : Nat} (D : Nat) (W : World) (tmps : Array Value) {R1 R2 : World → Prop} (hK : W.heap[D]? = some (.deferred (some []))) (h : R1 (W.putObj D (.deferred none))) :
    bodyPostM Fence.wide n Tryz.prog Tryz.f73 (fun e w' => (∃ v, e = .returned v) ∧ (R1 w' ∨ R2 w')) Exit.normal { tmps := tmps, defers := [{ target := .collected D, args := #[] }] } W := by
  refine ⟨by simp, .inl ⟨_, _, rfl, run_takeDeferred hK, ?_⟩⟩
  exact ⟨_, results_none rfl _ _ _, ⟨_, rfl⟩, .inl h⟩
theorem eachC_leaveX {n : Nat} (D : Nat) (W : World) (tmps : Array Value) {R1 R2 : World → Prop} (hK : W.heap[D]? = some (.deferred (some []))) (h : R2 (W.putObj D (.deferred none))) :
    bodyPostM Fence.wide n Tryz.prog Tryz.f73 (fun e w' => (∃ v, e = .returned v) ∧ (R1 w' ∨ R2 w')) Exit.ret { tmps := tmps, defers := [{ target := .collected D, args := #[] }] } W := by
  refine ⟨by simp, .inl ⟨_, _, rfl, run_takeDeferred hK, ?_⟩⟩
  exact ⟨_, results_none rfl _ _ _, ⟨_, rfl⟩, .inr h⟩
set_option maxHeartbeats 8000000 in
set_option maxRecDepth 100000 in
theorem eachC_seq {B1 B2 : Nat} (E : List Op5) (w0 : World) (x : Nat) (hT : ∃ v, w0.cell? ⟨x, 0, none⟩ = some v ∧ DlE w0 B1 B2 v E) (m : Nat) (hbig : (cellsL E).length ≤ 1099511627776) (hm : m = if sumB E = 0 then (cellsL E).length else 0) (n : Nat) (hn : 12 ≤ n) :
    SeqG9 Fence.wide n Tryz.prog 73 #[.pointer (some ⟨x, 0, none⟩)] encE9 (fun t => t = 3) (GE9 (cellsL E) w0.heap.size) (fun _ => KE9 w0.heap.size) (fun xs => xs.length = m) w0 := fun l J Jx W hW hJ hJx hY h0 => by
  obtain ⟨v, hx, hd⟩ := hT
  obtain ⟨q, rfl⟩ : ∃ q, v = .pointer (some ⟨q, 0, none⟩) := by obtain ⟨q, _, _, e, _⟩ := hd.d; exact ⟨q, e⟩
  have bA : Below W.heap.size W (W.alloc (.cells #[.func (.yield l) #[] #[]] 132)) := (Below.refl _ _).alloc (Nat.le_refl _) _
  have hF0 := heap_alloc_new W (.cells #[.func (.yield l) #[] #[]] 132)
  obtain ⟨WA, hWA⟩ : ∃ WA, WA = W.alloc (.cells #[.func (.yield l) #[] #[]] 132) := ⟨_, rfl⟩
  rw [← hWA] at bA hF0
  have c0 : WA.cell? ⟨x, 0, none⟩ = some (.pointer (some ⟨q, 0, none⟩)) := ((hW.trans (bA.mono hW.size)).cell (lt_of_cell hx)).trans hx
  have hdA : DlE WA B1 B2 (.pointer (some ⟨q, 0, none⟩)) E := (hd.below hW).below bA
  have cD := doc8_any _ E WA hdA
  have HD : Hid (DlE WA B1 B2 (.pointer (some ⟨q, 0, none⟩)) E) := hdA
  have HJ : Hid (∀ q W1 W2, J q W1 → Tr7 (fun t => t = 3) W.heap.size W1 W2 → J q W2) := hJ
  have HX : Hid (∀ q W1 W2, Jx q W1 → Tr7 (fun t => t = 3) W.heap.size W1 W2 → Jx q W2) := hJx
  have HY : Hid (∀ pre x W1, J pre W1 → GE9 (cellsL E) w0.heap.size pre x W1 → YieldAt Fence.wide (n - 1) Tryz.prog l (encE9 x) W1 fun e W' =>
      (e = .returned (.bool true) ∧ J (pre ++ [x]) W' ∧ KE9 w0.heap.size pre x W1 W' ∧ NcK W.heap.size W1 W') ∨ (e = .returned (.bool false) ∧ Jx (pre ++ [x]) W' ∧ NcK W.heap.size W1 W')) := hY
  have HN : Hid (12 ≤ n ∧ w0.heap.size ≤ W.heap.size) := ⟨hn, hW.size⟩
  have HG : Hid ((cellsL E).length ≤ 1099511627776) := hbig
  have HA : Hid (Below W.heap.size W WA ∧ WA.heap[W.heap.size]? = some (.cells #[.func (.yield l) #[] #[]] 132 (0, 0)) ∧ J [] W) := ⟨bA, hF0, h0⟩
  obtain ⟨bb, hbb⟩ : ∃ bb, (sumB E == 0) = bb := ⟨_, rfl⟩
  rw [hbb] at cD
  have HB : Hid ((sumB E == 0) = bb ∧ m = if sumB E = 0 then (cellsL E).length else 0) := ⟨hbb, hm⟩
  clear hY hJ hJx hx hd hdA hW bA hF0 hbb hn h0 hm hbig
  refine callsIn_of_wp_marks Tryz.func73 rfl trivial ?_ rfl
  simp only [Tryz.ntmps73, List.size_toArray, List.length_cons, List.length_nil, Nat.reduceAdd, Nat.reduceSub, Array.replicate_succ, Array.replicate_zero, List.push_toArray, List.append_toArray, List.nil_append, List.cons_append]
  have c0l := c0
  rw [hWA] at c0l
  gi_wp2
  rw [← hWA]
  clear hWA c0l
  refine ⟨trivial, (fun _ => by have := HN.out; omega), (callsIn_wide.2 cD).mono ?_⟩
  rintro r w1 ⟨rfl, hb1⟩
  have c1 : w1.cell? ⟨x, 0, none⟩ = some (.pointer (some ⟨q, 0, none⟩)) := (hb1.cell (lt_of_cell c0)).trans c0
  have HA1 : Hid (Below W.heap.size W w1 ∧ w1.heap[W.heap.size]? = some (.cells #[.func (.yield l) #[] #[]] 132 (0, 0)) ∧ DlE w1 B1 B2 (.pointer (some ⟨q, 0, none⟩)) E) := ⟨HA.out.1.trans (hb1.mono HA.out.1.size), heap_below hb1 HA.out.2.1, HD.out.below hb1⟩
  clear cD c0 hb1 HD
  cases bb with
  | false =>
    have hJ1 : Hid (J [] w1) := HJ.out _ _ _ HA.out.2.2 (Tr7.of_below HA1.out.1)
    have hm0 : Hid (m = 0) := by
      have h1 := HB.out.1
      have h2 := HB.out.2
      rw [if_neg (by simpa using h1)] at h2
      exact h2
    gi_wp2
    exact ⟨_, results_none rfl _ _ _, ⟨_, rfl⟩, .inl ⟨[], by rw [hm0.out]; rfl, hJ1.out⟩⟩
  | true =>
    have bI : Below w1.heap.size w1 (w1.alloc (.cells #[.int .i64 0] 3)) := (Below.refl _ _).alloc (Nat.le_refl _) _
    have hI0 := heap_alloc_new w1 (.cells #[.int .i64 0] 3)
    have c2 : (w1.alloc (.cells #[.int .i64 0] 3)).cell? ⟨x, 0, none⟩ = some (.pointer (some ⟨q, 0, none⟩)) := (bI.cell (lt_of_cell c1)).trans c1
    have cE := each7_call (.pointer (some ⟨q, 0, none⟩)) E (w1.alloc (.cells #[.int .i64 0] 3)) (HA1.out.2.2.d.below bI)
    have HI0 : Hid (Below w1.heap.size w1 (w1.alloc (.cells #[.int .i64 0] 3)) ∧ (w1.alloc (.cells #[.int .i64 0] 3)).heap[w1.heap.size]? = some (.cells #[.int .i64 0] 3 (0, 0))) := ⟨bI, hI0⟩
    clear bI hI0
    gi_wp2
    refine ⟨trivial, (fun _ => by have := HN.out; omega), (callsIn_wide.2 cE).mono ?_⟩
    rintro r w2 ⟨y, rfl, hy, -, hb2⟩
    have hb12 : Below w1.heap.size w1 w2 := HI0.out.1.trans (hb2.mono HI0.out.1.size)
    have hdoc := doc_base9 HA1.out.2.2.g (by simpa using HB.out.1)
    have H2 : Hid (St9 l W.heap.size w1.heap.size J [] w2 ∧ BoxD w2 y B1 B2 E ∧ W.heap.size < w1.heap.size ∧ w1.heap.size < w2.heap.size) := by
      have h1 := (Array.getElem?_eq_some_iff.1 HA1.out.2.1).1
      have h2 := heap_below hb2 HI0.out.2
      exact ⟨⟨HJ.out _ _ _ HA.out.2.2 (Tr7.of_below (HA1.out.1.trans (hb12.mono HA1.out.1.size))), heap_below hb12 HA1.out.2.1, h2⟩, hy, h1, (Array.getElem?_eq_some_iff.1 h2).1⟩
    have HE : Hid ((∀ o ∈ E, opE o = 0) ∧ (∀ o ∈ E, o.A.length ≤ 2097152) ∧ E.length ≤ 4194304 ∧ (∀ o ∈ E, Ins o) ∧ m = (cellsL E).length) := ⟨HA1.out.2.2.g, HA1.out.2.2.n, Nat.le_trans HA1.out.2.2.len (by decide), hdoc, by have h2 := HB.out.2; rwa [if_pos (by simpa using HB.out.1)] at h2⟩
    clear cE hy hb2 hb12 HI0 hdoc c1 c2 HA1 HB HA
    gi_wp2
    refine wpIn_rangeFunc_GA (encs := encZ) rfl (by have := HN.out; omega) (gf := 93) (lb := #[.pointer (some ⟨y, 0, none⟩)]) rfl trivial (enters_of Tryz.func93 (by kernel_rfl) rfl)
      (each7_seq E w2 y B1 B2 H2.out.2.1 HE.out.1 HE.out.2.1 HE.out.2.2.1 (n - 1) (by have := HN.out; omega)).nine (Below.refl _ _) (fun _ => rfl) (fun pre x A A' h k => h.bk k.seven) (fun pre x A A' B B' k1 h k2 => KZ.bk k1.seven h k2.seven)
      (fun pre A => ∃ xs : List EZ, xs.length = (cellsL (E.take pre.length)).length ∧ St9 l W.heap.size w1.heap.size J xs A ∧ w2.heap.size ≤ A.heap.size) (fun c pre A => c = .ret ∧ ∃ ys, Jx ys A)
      (fun s A A' ⟨xs, e, h, hz⟩ k => ⟨xs, e, h.tr HJ.out k (by have := H2.out; omega) (by have := H2.out; omega), Nat.le_trans hz k.size⟩) (fun c s A A' ⟨e, ys, h⟩ k => ⟨e, ys, HX.out _ _ _ h (k.mono (fun _ h => h.elim) (by have := H2.out; omega))⟩) ⟨[], rfl, H2.out.1, Nat.le_refl _⟩ (fun (_ : List PZ) (x1 : PZ) (a' : Act) (_ : World) => a' = { tmps := #[.func (.yield l) #[] #[], .pointer (some ⟨x, 0, none⟩), .pointer (some ⟨W.heap.size, 0, none⟩), .pointer (some ⟨w1.heap.size, 0, none⟩), x1.1, undef, .pointer (some ⟨q, 0, none⟩), .bool true, .bool false, .pointer (some ⟨q, 0, none⟩), .func (.func 93) #[] #[.pointer (some ⟨y, 0, none⟩)], x1.1, undef, undef, undef, undef, undef, undef, undef, undef, undef, undef], defers := [] }) (fun _ _ _ _ _ h _ => h) ?assign ?body ?done ?stop
    case assign =>
      intro l1 pre x1 W1 K _ _ hK
      gi_wp2
      exact hK _ _ (Below.refl _ _) rfl
    case body =>
      intro l1 pre x1 a' W1 hl1 hrec hI hG hax
      subst hax
      obtain ⟨e, s, he, hx1, hin, hlo, hhi⟩ := hG
      obtain ⟨x1v, xlo, xhi⟩ := x1
      simp only at hx1 hin hlo hhi
      subst hx1
      obtain ⟨u, yy, hux⟩ := pieceQ_if e s
      obtain ⟨r1, hr1⟩ := hrec
      have hem := List.mem_of_getElem? he
      have cC := cellsOf_call u yy W1
      obtain ⟨xs0, hxs0, hst0, hzz⟩ := hI
      have HP : Hid (E[pre.length]? = some e ∧ e ∈ E ∧ w2.heap.size ≤ W1.heap.size) := ⟨he, hem, hzz⟩
      have HW1 : Hid (W1.heap[l1]? = some (.loop r1) ∧ InA W1 xlo xhi s e.A ∧ xhi ≤ W1.heap.size) := ⟨hr1, hin, hhi⟩
      have HST : Hid (xs0.length = (cellsL (E.take pre.length)).length ∧ St9 l W.heap.size w1.heap.size J xs0 W1) := ⟨hxs0, hst0⟩
      have HU : Hid (pieceQ e s = .iface u yy) := hux
      clear he hem hin hhi hlo hr1 hux hxs0 hst0 hl1 hzz
      rw [HU.out]
      gi_wp2
      refine ⟨trivial, (fun _ => by have := HN.out; omega), (CallsIn.inRound l1 (callsIn_wide.2 cC)).mono ?_⟩
      rintro r w3 ⟨rfl, hc3, hb3⟩
      clear cC
      gi_wp2
      refine wpIn_rangeFunc_GN (encs := encC9) (l₀ := l1) (r₀ := r1) rfl (heap_below hb3 HW1.out.1) (by have := HN.out; omega) (gf := 94) (lb := #[.pointer (some ⟨W1.heap.size, 0, none⟩)]) rfl trivial (enters_of Tryz.func94 (by kernel_rfl) rfl)
        (SeqG9.inRound l1 (one9_seq e s w3 W1.heap.size xlo xhi (HE.out.2.2.2.1 e HP.out.2.1) (by rw [HU.out]; exact hc3) (HW1.out.2.1.below hb3) (Nat.le_trans HW1.out.2.2 hb3.size) (HE.out.2.1 e HP.out.2.1) (n - 1 - 1 - 1) (by have := HN.out; omega))) (Below.refl _ _) (fun _ => rfl) (fun pre x A A' h k => h.bk k) (fun pre x A A' B B' k1 h k2 => KC9.bk k1 h k2)
        (fun (qs : List CZ) A => ∃ xs : List EZ, xs.length = (cellsL (E.take pre.length)).length + qs.length ∧ St9 l W.heap.size w1.heap.size J xs A ∧ KZ pre (pieceQ e s, xlo, xhi) W1 A ∧ KeepsFrom w2.heap.size W1 A) (fun c (_ : List CZ) A => c = .ret ∧ (∃ ys, Jx ys A) ∧ KeepsFrom w2.heap.size W1 A)
        ?hI2 ?hIx2 ?h02 (fun (_ : List CZ) (z : CZ) (a' : Act) (A : World) => ∃ b, a' = { tmps := #[.func (.yield l) #[] #[], .pointer (some ⟨x, 0, none⟩), .pointer (some ⟨W.heap.size, 0, none⟩), .pointer (some ⟨w1.heap.size, 0, none⟩), .iface u yy, .pointer (some ⟨b, 0, none⟩), .pointer (some ⟨q, 0, none⟩), .bool true, .bool false, .pointer (some ⟨q, 0, none⟩), .func (.func 93) #[] #[.pointer (some ⟨y, 0, none⟩)], .iface u yy, .iface u yy, .func (.func 94) #[] #[.pointer (some ⟨W1.heap.size, 0, none⟩)], ceV z.1, undef, undef, undef, undef, undef, undef, undef], defers := [] } ∧ A.heap[b]? = some (.cells (ceC z.1) 30 (0, 0))) (fun _ _ _ _ _ ⟨b, h1, h2⟩ k => ⟨b, h1, k.cells h2⟩) ?assign2 ?body2 ?done2 ?stop2
      case hI2 =>
        rintro qs A A' ⟨xs, h1, h2, h3, h4⟩ k
        have hs := hb3.size
        exact ⟨xs, h1, h2.tr HJ.out k (by have := H2.out; have := HP.out; omega) (by have := H2.out; have := HP.out; omega), h3.step9 k.size (fun b cs hb => k.kept _ _ hb (.inr ⟨_, _, _, rfl, fun h => h⟩)) (fun b cs _ hb => k.kept _ _ hb (.inr ⟨_, _, _, rfl, fun h => h⟩)), ⟨Nat.le_trans h4.size k.size, fun b o hB ho hc => k.kept _ _ (h4.same b o hB ho hc) (.inl (by have := (Array.getElem?_eq_some_iff.1 ho).1; omega))⟩⟩
      case hIx2 =>
        rintro c qs A A' ⟨h1, ⟨ys, h2⟩, h4⟩ k
        have hs := hb3.size
        exact ⟨h1, ⟨ys, HX.out _ _ _ h2 (k.mono (fun _ h => h.elim) (by have := H2.out; have := HP.out; omega))⟩, ⟨Nat.le_trans h4.size k.size, fun b o hB ho hc => k.kept _ _ (h4.same b o hB ho hc) (.inl (by have := (Array.getElem?_eq_some_iff.1 ho).1; omega))⟩⟩
      case h02 =>
        exact ⟨xs0, HST.out.1, ⟨HJ.out _ _ _ HST.out.2.j (Tr7.of_below hb3), heap_below hb3 HST.out.2.f, heap_below hb3 HST.out.2.i⟩, ⟨hb3.size, fun k cs hk => heap_below hb3 hk, fun k cs hk _ => heap_below hb3 hk⟩, ⟨hb3.size, fun k o _ ho _ => heap_below hb3 ho⟩⟩
      case assign2 =>
        intro l2 qs z W4 K _ _ hK
        obtain ⟨⟨zk, zt, ⟨z1, z2, z3⟩, zp, zl, zc⟩, zlo, zhi⟩ := z
        simp only [encC9, ceV, slV]
        gi_wp2
        exact hK _ _ ((Below.refl _ _).alloc (Nat.le_refl _) _) ⟨W4.heap.size, rfl, heap_alloc_new W4 _⟩
      case body2 =>
        rintro l2 qs z a' W4 hl2 hrec2 ⟨xs, hxs, hst, hkz, hkf⟩ hG2 ⟨b, rfl, hb⟩
        obtain ⟨c, hc, g1, g2, g3, g4, g5, g6⟩ := hG2
        have hat := cells_at9 HP.out.1 hc
        rw [← hxs] at hat
        have hlt := (List.getElem?_eq_some_iff.1 hat).1
        have hs3 := hb3.size
        have hYk := HY.out xs (xs.length, z) W4 hst.j ⟨rfl, c, hat, g1, g2, g3, g4, by have := H2.out; have := HP.out; have := HN.out; show w0.heap.size ≤ z.2.1; omega, g6⟩
        have H4 : Hid (xs.length = (cellsL (E.take pre.length)).length + qs.length ∧ St9 l W.heap.size w1.heap.size J xs W4 ∧ KZ pre (pieceQ e s, xlo, xhi) W1 W4 ∧ KeepsFrom w2.heap.size W1 W4 ∧ w3.heap.size ≤ z.2.1) := ⟨hxs, hst, hkz, hkf, g5⟩
        obtain ⟨⟨zk, zt, ⟨z1, z2, z3⟩, zp, zl, zc⟩, zlo, zhi⟩ := z
        obtain ⟨N, hN⟩ : ∃ N, xs.length = N := ⟨_, rfl⟩
        have HNN : Hid (xs.length = N) := hN
        have cf : W4.cell? ⟨W.heap.size, 0, none⟩ = some (.func (.yield l) #[] #[]) := by rw [cell_of_heap hst.f]; rfl
        have ci : W4.cell? ⟨w1.heap.size, 0, none⟩ = some (.int .i64 N) := by rw [cell_of_heap hst.i, hN]; rfl
        have b0 : W4.cell? ⟨b, 0, none⟩ = some (.int .i32 zk) := by rw [cell_of_heap hb]; rfl
        have b1 : W4.cell? ⟨b, 1, none⟩ = some (.string zt) := by rw [cell_of_heap hb]; rfl
        have b2 : W4.cell? ⟨b, 2, none⟩ = some (.int .i64 z1) := by rw [cell_of_heap hb]; rfl
        have b3' : W4.cell? ⟨b, 3, none⟩ = some (.int .i64 z2) := by rw [cell_of_heap hb]; rfl
        have b4 : W4.cell? ⟨b, 4, none⟩ = some (.string z3) := by rw [cell_of_heap hb]; rfl
        have b5 : W4.cell? ⟨b, 5, none⟩ = some (.slice zp zl zc) := by rw [cell_of_heap hb]; rfl
        have hNb : N + 1 ≤ 1099511627776 := by have := HG.out; omega
        simp only [encE9, ceV, slV, hN] at hYk
        obtain ⟨fn, tm, asg, bo, hy, hR⟩ := hYk
        have hR' := roundIn_any9 (m := n - 1 - 1 - 1 - 1 - 1) (l1 := l1) (l2 := l2) hR
        clear hR hat hc g1 g2 g3 g4 g5 g6 hst hkz hkf hxs hlt hb hN hl2
        simp only [ceV, slV]
        gi_wp2
        refine ⟨(fun _ => by have := HN.out; omega), hR'.mono ?_⟩
        rintro e' W6 (⟨rfl, hj6, hk6, hn6⟩ | ⟨rfl, hj6, hn6⟩)
        · have hi6 := hk6.own _ _ _ H4.out.2.1.i (.inr (.inr (.inr ⟨by have := H2.out; have := HN.out; omega, by decide, by decide⟩)))
          have hf6 := hk6.own _ _ _ H4.out.2.1.f (.inr (.inr (.inr ⟨HN.out.2, by decide, by decide⟩)))
          rw [HNN.out] at hi6
          have c6 : W6.cell? ⟨w1.heap.size, 0, none⟩ = some (.int .i64 N) := by rw [cell_of_heap hi6]; rfl
          have f6 : W6.frozen? ⟨w1.heap.size, 0, none⟩ = false := frozen_of_heap hi6 0
          have hw : IntKind.i64.wrap ((N : Int) + 1) = N + 1 := by rw [IntKind.wrap_i64]; omega
          have H6 : Hid (J (xs ++ [(N, ((zk, zt, (z1, z2, z3), zp, zl, zc), zlo, zhi))]) W6 ∧ KE9 w0.heap.size xs (N, ((zk, zt, (z1, z2, z3), zp, zl, zc), zlo, zhi)) W4 W6 ∧ NcK W.heap.size W4 W6 ∧ W6.heap[w1.heap.size]? = some (.cells #[.int .i64 N] 3 (0, 0)) ∧ W6.heap[W.heap.size]? = some (.cells #[.func (.yield l) #[] #[]] 132 (0, 0))) := ⟨hj6, hk6, hn6, hi6, hf6⟩
          clear hj6 hk6 hn6 hi6 hf6 cf ci b0 b1 b2 b3' b4 b5 hy hR'
          gi_wp2
          obtain ⟨q1, q2, q3, q4, q5⟩ := H6.out
          obtain ⟨r1', r2, r3, r4, r5⟩ := H4.out
          have hz := H2.out
          have hz1 := HP.out.2.2
          have hoth : ∀ (k : Nat) (o : Obj), W6.heap[k]? = some o → k ≠ w1.heap.size → (W6.setCell ⟨w1.heap.size, 0, none⟩ (.int .i64 (N + 1))).heap[k]? = some o := fun k o hk hne => (Below.heap_setCell _ _ _ _ hne).trans hk
          have hne : ∀ (k : Nat) (o : Obj), W6.heap[k]? = some o → (∀ cs, o ≠ .cells cs 3 (0, 0)) → k ≠ w1.heap.size := fun k o hk ho e => by subst e; rw [q4] at hk; exact ho _ (Option.some.inj hk).symm
          have hsz : W6.heap.size ≤ (W6.setCell ⟨w1.heap.size, 0, none⟩ (.int .i64 (N + 1))).heap.size := by simp
          have h7 : (W6.setCell ⟨w1.heap.size, 0, none⟩ (.int .i64 (N + 1))).heap[w1.heap.size]? = some (.cells #[.int .i64 (N + 1)] 3 (0, 0)) := by
            have := heap_set_at W6 w1.heap.size 0 (.int .i64 (N + 1)) _ _ _ q4
            simpa using this
          refine ⟨⟨Nat.le_trans q3.1 hsz, fun k o hk ho hc => hoth k o (q3.2 k o (by omega) ho hc) (by omega)⟩, ⟨Nat.le_trans q2.size hsz, fun k cs t hk ht => ?_, fun k t p hk => hoth k _ (q2.ite k t p hk) (hne k _ (q2.ite k t p hk) (fun cs e => by cases e)), fun k cs hk ho => hoth k _ (q2.att k cs hk ho) (hne k _ (q2.att k cs hk ho) (fun cs e => by cases e))⟩, xs ++ [(N, ((zk, zt, (z1, z2, z3), zp, zl, zc), zlo, zhi))], ?_, ⟨HJ.out _ _ _ q1 (tr7_set9 (T := fun t => t = 3) (B := W.heap.size) q4 (by omega) rfl 0 _), hoth _ _ q5 (by omega), ?_⟩, ?_, ⟨Nat.le_trans r4.size (Nat.le_trans q3.1 hsz), fun k o hk ho hc => hoth k o (q3.2 k o (by omega) (r4.same k o hk ho hc) hc) (by omega)⟩⟩
          · have h8 := q2.own k cs t hk (ht.elim .inl fun h => .inr (.inl h))
            exact hoth k _ h8 (hne k _ h8 (fun cs' e => by rcases ht with rfl | rfl <;> cases e))
          · rw [List.length_append, List.length_append, r1']; rfl
          · rw [h7, List.length_append, HNN.out]; rfl
          · exact r3.step9 (Nat.le_trans q2.size hsz) (fun k cs hk => hoth k _ (q2.own k cs _ hk (.inr (.inr (.inl rfl)))) (hne k _ (q2.own k cs _ hk (.inr (.inr (.inl rfl)))) (fun cs' e => by cases e))) (fun k cs hlt hk => by
              have h8 := q2.att k cs hk (.inl (by show k < zlo; have : w3.heap.size ≤ zlo := r5; omega))
              exact hoth k _ h8 (hne k _ h8 (fun cs' e => by cases e)))
        · have H6 : Hid ((∃ ys, Jx ys W6) ∧ NcK W.heap.size W4 W6) := ⟨⟨_, hj6⟩, hn6⟩
          clear hj6 hn6 cf ci b0 b1 b2 b3' b4 b5 hy hR'
          gi_wp2
          obtain ⟨q1, q3⟩ := H6.out
          obtain ⟨r1', r2, r3, r4, r5⟩ := H4.out
          have hz := H2.out
          have hz1 := HP.out.2.2
          exact ⟨⟨q3.1, fun k o hk ho hc => q3.2 k o (by omega) ho hc⟩, rfl, q1, ⟨Nat.le_trans r4.size q3.1, fun k o hk ho hc => q3.2 k o (by omega) (r4.same k o hk ho hc) hc⟩⟩
      case done2 =>
        rintro qs A hS ⟨xs, h1, h2, h3, h4⟩
        have hln : (cellsL (E.take (pre ++ [((pieceQ e s, xlo, xhi) : PZ)]).length)).length = xs.length := by
          rw [List.length_append, List.length_singleton, List.take_add_one, HP.out.1]
          unfold cellsL
          rw [List.flatMap_append, List.length_append, h1, hS]
          simp [cellsL]
        gi_wp2
        have hsz : w2.heap.size ≤ A.heap.size := Nat.le_trans HP.out.2.2 h4.size
        rw [HU.out] at h3 hln
        exact ⟨h4, h3, xs, hln.symm, h2, hsz⟩
      case stop2 =>
        rintro c qs A ⟨rfl, h2, h4⟩
        gi_wp2
        exact ⟨h4, rfl, h2⟩
    case done =>
      rintro D xs A hD hS ⟨ys, hys, hst, -⟩ hK
      have hfin : Hid (ys.length = m) := by
        show ys.length = m
        rw [hys, hS, List.take_length]; exact HE.out.2.2.2.2.symm
      gi_wp2
      exact eachC_leave D A _ hK ⟨ys, hfin.out, HJ.out _ _ _ hst.j (tr7_put9 hK (by have := H2.out; omega))⟩
    case stop =>
      rintro D c pre A hD ⟨rfl, ys, hj⟩ hK
      gi_wp2
      exact eachC_leaveX D A _ hK ⟨ys, HX.out _ _ _ hj (tr7_put9 hK (by have := H2.out; omega))⟩
end Go.Proofs.YtalfdjglbbmjcabGreatDoor

/- cells.List of a document. -/
namespace Go.Proofs.YtalfdjglbbmjcabGreatDoor
open Go Go.RowKit Go.Lib Go.Shelf
set_option linter.unusedVariables false
attribute [local go_sem] Oper.semAt_some

theorem wpListIn_append_cells {F : Fence} {n : Nat} {w : World} {ops : Array Oper} {rest : List Oper} {o : Oper} {a : Act} {Q : Exit → Act → World → Prop} (hgd : o.guard = none) (s x : Operand)
    (ho : o.op = .call { callee := .builtin .append, args := #[s, x], argTypes := #[22, 22] })
    (base : Nat) (v : Value) (L : List CV) (hs : a.eval s = v) (hown : OwnC w base v L)
    (b : Nat) (d : CV) (hx : a.eval x = .slice (some ⟨b, 0, none⟩) 1 1) (hM : w.heap[b]? = some (.cells (ceC d) 30 (0, 0)))
    (h63 : L.length + 1 ≤ 33554432) (hbase : base ≤ w.heap.size)
    (h : ∀ v' w', OwnC w' base v' (L ++ [d]) → w.grownBy w' v.ownBlock → wpListIn F n Tryz.prog ops Q rest (a.put o.dst v') w') : wpListIn F n Tryz.prog ops Q (o :: rest) a w := by
  obtain ⟨i, z, hi, hz, hz1, hz2, hz3⟩ := infoCe
  refine wpListIn_append_own _ hgd s x _ ho base 30 i z 6 80 Tryz.underlying22 hi hz hz1 hz2 hz3 (by decide) v L.length (cellsC L) hs hown ⟨b, 0, none⟩ 1 1 (cellsC [d]) hx (by rw [cellsC_len]; rfl) (fun j y hj => ?_) (cellsC_one _) (by unfold maxLen; omega) (by omega) hbase (fun v' w' h1 h2 _ => ?_)
  · rw [Addr.add_lit, Nat.zero_add, cell_of_heap hM, List.getElem?_toArray]
    exact hj
  · refine h v' w' ?_ h2
    show w'.ownsRow _ _ _ _ _ _
    rw [cellsC_append, List.length_append]
    exact h1
/-- What List has so far. -/
structure Li9 (E : List Op5) (w : World) (O : Nat) (pre : List EZ) (lv : Value) (D : List CV) (A : World) : Prop where
  box : A.heap[O]? = some (.cells #[lv] 22 (0, 0))
  len : D.length = pre.length
  own : OwnC A w.heap.size lv D
  are : AreO A w.heap.size D ((cellsL E).take pre.length)
  below : Below w.heap.size w A
theorem Li9.tr {E : List Op5} {w : World} {O B : Nat} {pre : List EZ} {lv : Value} {D : List CV} {A A' : World} (h : Li9 E w O pre lv D A) (k : Tr7 (fun t => t = 3) B A A') (hO : O < B) (hw : w.heap.size ≤ B) : Li9 E w O pre lv D A' :=
  ⟨k.kept _ _ h.box (.inl hO), h.len, owns_same h.own fun j hj => (by
    obtain ⟨_, cur, hc⟩ := owns_block h.own j hj
    exact (k.kept _ _ hc (.inr ⟨_, _, _, rfl, by decide⟩)).trans hc.symm), h.are.keep (fun j cur hj => (k.kept _ _ hj (.inr ⟨_, _, _, rfl, by decide⟩)).trans hj.symm), tr_below8 h.below (Nat.le_refl _) hw k⟩
theorem list_leave (A : World) (D : Nat) (tmps : Array Value) (lv : Value) {R : Value → World → Prop} (h2 : tmps[2]? = some lv) (h3 : tmps[3]? = some .nilIface) (hK : A.heap[D]? = some (.deferred (some []))) (h : R lv (A.putObj D (.deferred none))) :
    bodyPostM Fence.wide 15 Tryz.prog Tryz.f22 (fun r w' => ∃ lv, r = .returned (.tuple #[lv, .nilIface]) ∧ R lv w') Exit.ret { tmps := tmps, defers := [{ target := .collected D, args := #[] }] } A := by
  refine ⟨by simp, .inl ⟨_, _, rfl, run_takeDeferred hK, ?_⟩⟩
  refine ⟨.tuple #[lv, .nilIface], ?_, ⟨lv, rfl, h⟩⟩
  simp [results, Tryz.results22, go_sem, h2, h3]
theorem list_keep {E : List Op5} {w A A' : World} {O : Nat} {pre : List EZ} {lv : Value} {L : List CV} {d : CV} (h : Li9 E w O pre lv L A) (g : (A.alloc (.cells (ceC d) 30)).grownBy A' lv.ownBlock) (k : Nat) (o : Obj) (hk : A.heap[k]? = some o) (hn : ∀ cs, o ≠ .cells cs 30 (0, 0)) : A'.heap[k]? = some o := by
  have hlt := (Array.getElem?_eq_some_iff.1 hk).1
  refine (g.block k (by rw [World.size_alloc]; omega) fun e => ?_).trans ((Below.heap_alloc _ _ _ hlt).trans hk)
  obtain ⟨_, cur, hc⟩ := owns_block h.own k e.symm
  rw [hk] at hc
  exact hn cur (Option.some.inj hc)
theorem list_box {E : List Op5} {w A A' : World} {O : Nat} {pre : List EZ} {lv : Value} {L : List CV} {d : CV} (h : Li9 E w O pre lv L A) (g : (A.alloc (.cells (ceC d) 30)).grownBy A' lv.ownBlock) : A'.heap[O]? = some (.cells #[lv] 22 (0, 0)) :=
  list_keep h g O _ h.box (fun cs e => by cases e)
theorem list_round {E : List Op5} {w A A' : World} {O W4 zi zlo zhi : Nat} {pre : List EZ} {lv v' : Value} {L : List CV} {zk : Int} {zt : ByteArray} {zz : P3} {zp : Option Addr} {zl zc : Nat} {e : C5} (h : Li9 E w O pre lv L A) (he : (cellsL E)[pre.length]? = some e) (hz : zk = e.1 ∧ zt = e.2.1 ∧ zz = e.2.2.1) (hin : InA A zlo zhi (.slice zp zl zc) e.2.2.2) (hlo : W4 ≤ zlo) (own : OwnC A' w.heap.size v' (L ++ [(zk, zt, zz, zp, zl, zc)])) (g : (A.alloc (.cells (ceC (zk, zt, zz, zp, zl, zc)) 30)).grownBy A' lv.ownBlock) (hbx : A'.heap[O]? = some (.cells #[lv] 22 (0, 0))) (hO : O < W4 ∧ w.heap.size ≤ O) :
    KeepsFrom W4 A (A'.setCell ⟨O, 0, none⟩ v') ∧ KE9 W4 pre (zi, ((zk, zt, zz, zp, zl, zc), zlo, zhi)) A (A'.setCell ⟨O, 0, none⟩ v') ∧ ∃ lv D, Li9 E w O (pre ++ [(zi, ((zk, zt, zz, zp, zl, zc), zlo, zhi))]) lv D (A'.setCell ⟨O, 0, none⟩ v') := by
  have key : ∀ (k : Nat) (o : Obj), A.heap[k]? = some o → (∀ cs, o ≠ .cells cs 30 (0, 0)) → k ≠ O → (A'.setCell ⟨O, 0, none⟩ v').heap[k]? = some o := fun k o hk hn hne => (Below.heap_setCell _ _ _ _ hne).trans (list_keep h g k o hk hn)
  have hnO : ∀ (k : Nat) (o : Obj), A.heap[k]? = some o → (∀ cs, o ≠ .cells cs 22 (0, 0)) → k ≠ O := fun k o hk hn e => by subst e; rw [h.box] at hk; exact hn _ (Option.some.inj hk).symm
  have hsz : A.heap.size ≤ (A'.setCell ⟨O, 0, none⟩ v').heap.size := by have := g.size; rw [World.size_alloc] at this; simp; omega
  have hka : KeepA A (A'.setCell ⟨O, 0, none⟩ v') := fun k cur hk => (key k _ hk (fun cs e => by cases e) (hnO k _ hk (fun cs e => by cases e))).trans hk.symm
  refine ⟨⟨hsz, fun k o _ hk hc => key k o hk (fun cs e => by rw [e] at hc; cases hc) (hnO k o hk (fun cs e => by rw [e] at hc; cases hc))⟩, ⟨hsz, fun k cs t hk ht => ?_, fun k t p hk => key k _ hk (fun cs e => by cases e) (hnO k _ hk (fun cs e => by cases e)), fun k cs hk _ => key k _ hk (fun cs e => by cases e) (hnO k _ hk (fun cs e => by cases e))⟩, v', L ++ [(zk, zt, zz, zp, zl, zc)], ?_, ?_, ?_, ?_, ?_⟩
  · rcases ht with rfl | rfl | rfl | ⟨h1, h2, h3⟩
    · exact key k _ hk (fun cs e => by cases e) (hnO k _ hk (fun cs e => by cases e))
    · exact key k _ hk (fun cs e => by cases e) (hnO k _ hk (fun cs e => by cases e))
    · exact key k _ hk (fun cs e => by cases e) (hnO k _ hk (fun cs e => by cases e))
    · exact key k _ hk (fun cs e => by cases e; exact h2 rfl) (by omega)
  · have := heap_set_at A' O 0 v' _ _ _ hbx
    simpa using this
  · rw [List.length_append, List.length_append, h.len]; rfl
  · refine owns_same own fun k hk => Below.heap_setCell _ _ _ _ fun e => ?_
    obtain ⟨_, cur, hc⟩ := owns_block own k hk
    rw [show k = O from e, hbx] at hc
    cases hc
  · rw [List.length_append, List.length_singleton, List.take_add_one, he]
    exact forall2_append (h.are.keep hka) (.cons ⟨hz.1, hz.2.1, hz.2.2, keepA_own (own_weaken hin.own (by omega)) hka⟩ .nil)
  · have h1 : Below w.heap.size w (A.alloc (.cells (ceC (zk, zt, zz, zp, zl, zc)) 30)) := h.below.alloc h.below.size _
    exact (h1.grown g h1.size (fun k hk => (owns_block h.own k hk).1)).setCell (p := ⟨O, 0, none⟩) hO.2 _
set_option maxHeartbeats 8000000 in
set_option maxRecDepth 100000 in
theorem list9_any {B1 B2 : Nat} (v : Value) (E : List Op5) (w : World) (h : DlE w B1 B2 v E) (h0 : sumB E = 0) (hc : sumR E ≤ 2097152) (hl : (cellsL E).length ≤ 2097152) :
    Calls Tryz.prog 22 #[v] w fun r w' => ∃ lv, r = .returned (.tuple #[lv, .nilIface]) ∧ (∃ D, OwnC w' w.heap.size lv D ∧ AreO w' w.heap.size D (cellsL E)) ∧ Below w.heap.size w w' := by
  have cD := doc8_any v E w h
  rw [show (sumB E == 0) = true by rw [h0]; rfl] at cD
  obtain ⟨N, hN⟩ : ∃ N : Nat, sumR E = N := ⟨(sumR E).toNat, by have := h.sums; omega⟩
  have cR : Hid (∀ W, Below w.heap.size w W → Calls Tryz.prog 24 #[v] W fun e w' => e = .returned (.int .i64 N) ∧ Below W.heap.size W w') := fun W hW => by rw [← hN]; exact result8_any v E W (h.below hW)
  have cE : Hid (∀ W, Below w.heap.size w W → Calls Tryz.prog 49 #[v] W fun r w' => ∃ x, r = .returned (.func (.func 73) #[] #[.pointer (some ⟨x, 0, none⟩)]) ∧ (∃ u, w'.cell? ⟨x, 0, none⟩ = some u ∧ DlE w' B1 B2 u E) ∧ Below W.heap.size W w') := fun W hW => by
    refine (eachC_call v E W (h.d.below hW)).mono ?_
    rintro r w' ⟨x, e, ⟨u, h1, h2⟩, _, h3⟩
    exact ⟨x, e, ⟨u, h1, ⟨h2, h.g, h.fit, h.len, h.txt, h.fits⟩⟩, h3⟩
  have HB : Hid (sumB E = 0 ∧ N ≤ 2097152 ∧ (cellsL E).length ≤ 2097152) := ⟨h0, by omega, hl⟩
  obtain ⟨q, rfl⟩ : ∃ q, v = .pointer (some ⟨q, 0, none⟩) := by obtain ⟨q, _, _, e, _⟩ := h.d; exact ⟨q, e⟩
  obtain ⟨i0, z0', hi, hz, hz1, hz2, hz3⟩ := infoCe
  have hZ : Hid (i0.zero = some z0' ∧ i0.size = 6 ∧ i0.bytes = 80 ∧ z0'.cells.size = 6) := ⟨hz, hz1, hz2, hz3⟩
  have hN2 : N ≤ 2097152 := HB.out.2.1
  clear h h0 hc hl hN hz hz1 hz2 hz3
  refine (callsIn_wide (n := 15)).1 ?_
  refine callsIn_of_wp_marks Tryz.func22 rfl trivial ?_ rfl
  simp only [Tryz.ntmps22, List.size_toArray, List.length_cons, List.length_nil, Nat.reduceAdd, Nat.reduceSub, Array.replicate_succ, Array.replicate_zero, List.push_toArray, List.append_toArray, List.nil_append, List.cons_append]
  rw [wpIn_wide]
  go_wp2_with fail
  refine cD.mono ?_; rintro r w1 ⟨rfl, hb1⟩
  have c2 := cR.out w1 hb1
  clear cD cR
  go_wp2_with fail
  refine c2.mono ?_; rintro r w2 ⟨rfl, hb2'⟩
  have hb2 := hb1.trans (hb2'.mono hb1.size)
  have hs2 := hb2.size
  clear c2 hb1 hb2'
  go_wp2_with (at_make; refine wpList_make_own _ rfl _ _ 22 rfl w.heap.size 30 i0 z0' 6 Tryz.underlying22 hi hZ.out.1 hZ.out.2.1 .i64 .i64 _ N rfl rfl rfl (by rw [hZ.out.2.2.1]; omega) (by unfold maxLen; omega) hs2 ?_; intro w3 hown hgr; have hb3 : Below w.heap.size w w3 := (hb2.grown hgr hb2.size (fun k hk => by cases hk)))
  have bO : Below w3.heap.size w3 (w3.alloc (.cells #[.slice (some ⟨w2.heap.size, 0, none⟩) 0 N] 22)) := (Below.refl _ _).alloc (Nat.le_refl _) _
  have hO := heap_alloc_new w3 (.cells #[.slice (some ⟨w2.heap.size, 0, none⟩) 0 N] 22)
  have hbO := hb3.trans (bO.mono hb3.size)
  have c3 := cE.out _ hbO
  have hown' : OwnC w3 w.heap.size (.slice (some ⟨w2.heap.size, 0, none⟩) 0 N) [] := hown
  refine c3.mono ?_; rintro r w4 ⟨x, rfl, hx, hb4⟩
  have H4 : Hid (Li9 E w w3.heap.size [] (.slice (some ⟨w2.heap.size, 0, none⟩) 0 N) [] w4 ∧ (∃ u, w4.cell? ⟨x, 0, none⟩ = some u ∧ DlE w4 B1 B2 u E) ∧ w3.heap.size < w4.heap.size ∧ w.heap.size ≤ w3.heap.size) := by
    have h1 := heap_below hb4 hO
    exact ⟨⟨h1, rfl, owns_below (owns_below hown' bO) hb4, by rw [List.length_nil, List.take_zero]; exact .nil, hbO.trans (hb4.mono hbO.size)⟩, hx, (Array.getElem?_eq_some_iff.1 h1).1, hb3.size⟩
  clear c3 cE hx hb4 hO bO hbO hown hown' hgr hb3 hb2 hs2 hi hZ
  go_wp2_with fail
  refine (wpIn_wide (n := 15)).1 ?_
  refine wpIn_rangeFunc_GA (encs := encE9) rfl (by decide) (gf := 73) (lb := #[.pointer (some ⟨x, 0, none⟩)]) rfl trivial (enters_of Tryz.func73 (by kernel_rfl) rfl)
    (eachC_seq E w4 x H4.out.2.1 (cellsL E).length (Nat.le_trans HB.out.2.2 (by decide)) (by rw [if_pos HB.out.1]) 14 (by decide)) (Below.refl _ _) (fun _ => rfl) (fun pre x A A' h k => h.bk k) (fun pre x A A' B B' k1 h k2 => KE9.bk k1 h k2)
    (fun (pre : List EZ) A => ∃ lv D, Li9 E w w3.heap.size pre lv D A) (fun _ _ _ => False)
    (fun s A A' ⟨lv, D, h⟩ k => ⟨lv, D, h.tr k (by have := H4.out; omega) (by have := H4.out; omega)⟩) (fun _ _ _ _ h _ => h) ⟨_, _, H4.out.1⟩
    (fun (_ : List EZ) (z : EZ) (a' : Act) (A : World) => ∃ b, a' = { tmps := #[.pointer (some ⟨q, 0, none⟩), undef, .slice none 0 0, .nilIface, .pointer (some ⟨w3.heap.size, 0, none⟩), undef, .pointer (some ⟨b, 0, none⟩), .pointer (some ⟨q, 0, none⟩), .bool true, .bool false, undef, .pointer (some ⟨q, 0, none⟩), .int .i64 N, .slice (some ⟨w2.heap.size, 0, none⟩) 0 N, .pointer (some ⟨q, 0, none⟩), .func (.func 73) #[] #[.pointer (some ⟨x, 0, none⟩)], .int .i64 (z.1 : Nat), ceV z.2.1, undef, undef, undef, undef, undef], defers := [] } ∧ A.heap[b]? = some (.cells (ceC z.2.1) 30 (0, 0))) (fun _ _ _ _ _ ⟨b, h1, h2⟩ k => ⟨b, h1, k.cells h2⟩) ?assign ?body ?done ?stop
  case assign =>
    intro l2 pre z W4 K _ _ hK
    obtain ⟨zi, ⟨zk, zt, ⟨z1, z2, z3⟩, zp, zl, zc⟩, zlo, zhi⟩ := z
    simp only [encE9, ceV, slV]
    gi_wp2
    exact hK _ _ ((Below.refl _ _).alloc (Nat.le_refl _) _) ⟨W4.heap.size, rfl, heap_alloc_new W4 _⟩
  case body =>
    rintro l2 pre z a' A hl2 hrec ⟨lv, L, hli⟩ hG ⟨b, rfl, hb⟩
    obtain ⟨hi0, e, he, g1, g2, g3, g4, g5, g6⟩ := hG
    obtain ⟨zi, ⟨zk, zt, ⟨z1, z2, z3⟩, zp, zl, zc⟩, zlo, zhi⟩ := z
    have hlt := (List.getElem?_eq_some_iff.1 he).1
    have hln : L.length + 1 ≤ 33554432 := by have := HB.out.2.2; have := hli.len; omega
    have hbase : w.heap.size ≤ (A.alloc (.cells (ceC (zk, zt, (z1, z2, z3), zp, zl, zc)) 30)).heap.size := by have := hli.below.size; rw [World.size_alloc]; omega
    have HM : Hid ((A.alloc (.cells (ceC (zk, zt, (z1, z2, z3), zp, zl, zc)) 30)).heap[A.heap.size]? = some (.cells (ceC (zk, zt, (z1, z2, z3), zp, zl, zc)) 30 (0, 0)) ∧ OwnC (A.alloc (.cells (ceC (zk, zt, (z1, z2, z3), zp, zl, zc)) 30)) w.heap.size lv L) := ⟨heap_alloc_new A _, owns_below hli.own ((Below.refl _ _).alloc (Nat.le_refl _) _)⟩
    have HLI : Hid (Li9 E w w3.heap.size pre lv L A ∧ (cellsL E)[pre.length]? = some e ∧ (zk = e.1 ∧ zt = e.2.1 ∧ (z1, z2, z3) = e.2.2.1) ∧ InA A zlo zhi (.slice zp zl zc) e.2.2.2 ∧ w4.heap.size ≤ zlo) := ⟨hli, he, ⟨g1, g2, g3⟩, g4, g5⟩
    have cO : A.cell? ⟨w3.heap.size, 0, none⟩ = some lv := by rw [cell_of_heap hli.box]; rfl
    have b0 : A.cell? ⟨b, 0, none⟩ = some (.int .i32 zk) := by rw [cell_of_heap hb]; rfl
    have b1 : A.cell? ⟨b, 1, none⟩ = some (.string zt) := by rw [cell_of_heap hb]; rfl
    have b2 : A.cell? ⟨b, 2, none⟩ = some (.int .i64 z1) := by rw [cell_of_heap hb]; rfl
    have b3 : A.cell? ⟨b, 3, none⟩ = some (.int .i64 z2) := by rw [cell_of_heap hb]; rfl
    have b4 : A.cell? ⟨b, 4, none⟩ = some (.string z3) := by rw [cell_of_heap hb]; rfl
    have b5 : A.cell? ⟨b, 5, none⟩ = some (.slice zp zl zc) := by rw [cell_of_heap hb]; rfl
    clear hli he g1 g2 g3 g4 g5 g6 hlt hb hi0 hrec hl2
    simp only [ceV, slV]
    gi_wp2_with (gi_at_builtin; refine wpListIn_append_cells rfl (.tmp 18) (.tmp 20) rfl w.heap.size lv L rfl HM.out.2 A.heap.size (zk, zt, (z1, z2, z3), zp, zl, zc) rfl HM.out.1 hln hbase ?_; intro v' A' own' gr'; obtain ⟨pv, nv, cv, ev⟩ : ∃ p n c, v' = .slice p n c := (by obtain ⟨p, c, h, _⟩ := own_rowC own'; exact ⟨p, _, c, h⟩); subst ev; have hbox := list_box (d := (zk, zt, (z1, z2, z3), zp, zl, zc)) HLI.out.1 gr'; have cO' : A'.cell? ⟨w3.heap.size, 0, none⟩ = some lv := (by rw [cell_of_heap hbox]; rfl); have fO' : A'.frozen? ⟨w3.heap.size, 0, none⟩ = false := frozen_of_heap hbox 0; have HBX : Hid ((OwnC A' w.heap.size (.slice pv nv cv) (L ++ [(zk, zt, (z1, z2, z3), zp, zl, zc)]) ∧ (A.alloc (.cells (ceC (zk, zt, (z1, z2, z3), zp, zl, zc)) 30)).grownBy A' lv.ownBlock) ∧ A'.heap[w3.heap.size]? = some (.cells #[lv] 22 (0, 0))) := ⟨⟨own', gr'⟩, hbox⟩; clear own' gr' hbox cO b0 b1 b2 b3 b4 b5 HM)
    exact list_round HLI.out.1 HLI.out.2.1 HLI.out.2.2.1 HLI.out.2.2.2.1 HLI.out.2.2.2.2 HBX.out.1.1 HBX.out.1.2 HBX.out.2 H4.out.2.2
  case stop => intro D c pre W _ h; exact h.elim
  case done =>
    rintro D xs A hD hS ⟨lv, L, hli⟩ hK
    have cO : A.cell? ⟨w3.heap.size, 0, none⟩ = some lv := by rw [cell_of_heap hli.box]; rfl
    have hall : (cellsL E).take xs.length = cellsL E := List.take_of_length_le (by omega)
    have HF : Hid (Li9 E w w3.heap.size xs lv L A ∧ (cellsL E).take xs.length = cellsL E ∧ w4.heap.size ≤ D) := ⟨hli, hall, hD⟩
    clear hli hall hS hD
    gi_wp2
    go_wp2
    have h9 := HF.out.1.tr (tr7_put9 (T := fun t => t = 3) (o' := .deferred none) hK HF.out.2.2) (by have := H4.out; omega) (by have := H4.out; omega)
    exact list_leave A D _ lv rfl rfl hK ⟨⟨L, h9.own, by rw [← HF.out.2.1]; exact h9.are⟩, h9.below⟩
end Go.Proofs.YtalfdjglbbmjcabGreatDoor

/- cells.Check; the document's Check of a cell. -/
namespace Go.Proofs.YtalfdjglbbmjcabGreatDoor
open Go Go.RowKit Go.Lib
set_option linter.unusedVariables false

set_option maxHeartbeats 2000000 in
theorem checkC_any {I : List Nat} {a : Nat → Addr} (e : C5) (p : Option Addr) (l c : Nat) (w : World) (hI : ∀ i ∈ IxO, i ∈ I) (hS : Std I a w) (hR : RN w (.slice p l c) e.2.2.2) (hF : FitC e) :
    Calls Tryz.prog 11 #[ceP e (.slice p l c)] w fun r w' => r = .returned (errOf a (celE e)) ∧ Below w.heap.size w w' := by
  have b0 := (Below.refl w.heap.size w).alloc (Nat.le_refl _) (.cells (ceA e (.slice p l c)) 30)
  by_cases hb : badC e
  · rw [celE_bad hb, show errOf a 5 = errV a 4 from rfl]
    have c1 := insertC_bad e p l c (w.alloc (.cells (ceA e (.slice p l c)) 30)) (hI 4 (by simp)) (hS.below b0) hb
    obtain ⟨k, t, ⟨x, n, u⟩, A⟩ := e
    simp only [ceA] at b0 c1
    clear hS hI hR hF hb
    go_enter Tryz.func11, Tryz.ntmps11
    go_wp2_with fail
    refine c1.mono ?_; rintro r w2 ⟨rfl, hb2⟩
    have b2 := b0.trans (hb2.mono b0.size)
    clear c1 hb2 b0
    go_wp2
    go_ret
    exact ⟨rfl, b2.alloc b2.size _⟩
  · rw [celE_op hb]
    have c1 := insertC_op e p l c (w.alloc (.cells (ceA e (.slice p l c)) 30)) hb
    have cP : Hid (∀ W, Below w.heap.size w W → Calls Tryz.prog 37 #[opV (opOf e) (.slice p l c)] W fun r w' => r = .returned (errOf a (opE (opOf e))) ∧ Below W.heap.size W w') := fun W hW =>
      checkO_any (opOf e) (.slice p l c) W hI (hS.below hW) (by rw [opOf_A]; exact hR.below hW) hF.fit
    obtain ⟨E, hE⟩ : ∃ E, errOf a (opE (opOf e)) = E := ⟨_, rfl⟩
    rw [hE] at cP ⊢
    obtain ⟨o, ho⟩ : ∃ o, opOf e = o := ⟨_, rfl⟩
    rw [ho] at c1 cP
    obtain ⟨ok, ot, ⟨ox, on, ou⟩, oc, oA⟩ := o
    obtain ⟨k, t, ⟨y, n, u⟩, A⟩ := e
    simp only [ceA] at b0 c1
    clear hS hI hR hF hb ho hE
    go_enter Tryz.func11, Tryz.ntmps11
    go_wp2_with fail
    refine c1.mono ?_; rintro r w2 ⟨rfl, hb2⟩
    have b2 := b0.trans (hb2.mono b0.size)
    have b3 := b2.alloc b2.size (.cells #[.int .i64 ok, .string ot, .int .i64 ox, .int .i64 on, .string ou, .int .i64 oc, .slice p l c] 69)
    have c3 := cP.out _ b3
    clear c1 hb2 b0 cP
    go_wp2_with fail
    refine c3.mono ?_; rintro r w4 ⟨rfl, hb4⟩
    have b4 := b3.trans (hb4.mono b3.size)
    clear c3 hb4
    go_wp2
    go_ret
    exact ⟨rfl, b4⟩
theorem insE_emb (t : ByteArray) (v : P3) (A : List A2) : opE ⟨2, t, v, 0, A⟩ = if t.toList.isEmpty = true ∨ 64 < t.size then 6 else if brk t.data.toList ≠ t.size then 1 else if chkP v ≠ 0 then chkP v else listE false none A := by
  unfold opE
  rw [if_pos (Or.inr rfl)]
  unfold insE
  by_cases h : t.toList.isEmpty = true ∨ 64 < t.size
  · have hf : fldE ⟨2, t, v, 0, A⟩ = 6 := by
      unfold fldE
      rw [if_neg (by simp), if_neg (by simp), if_pos ⟨rfl, h⟩]
    rw [hf, if_pos h]; rfl
  · have hf : fldE ⟨2, t, v, 0, A⟩ = 0 := by
      unfold fldE
      rw [if_neg (by simp), if_neg (by simp), if_neg (fun hh => h hh.2)]
    rw [hf, if_neg h]; rfl
theorem size_emp (t : ByteArray) : t.toList.isEmpty = true ↔ t.size = 0 := by
  rw [toList_data, List.isEmpty_iff_length_eq_zero, size_toList]
set_option maxHeartbeats 4000000 in
theorem checkR9_any {I : List Nat} {a : Nat → Addr} (e : C5) (p : Option Addr) (l c : Nat) (w : World) (hS : Std I a w) (hR : RN w (.slice p l c) e.2.2.2) (hF : FitC e) :
    Calls Tryz.prog 12 #[ceP e (.slice p l c)] w fun r w' => r = .returned (.int .i64 (celE e)) ∧ Below w.heap.size w w' := by
  have b0 := (Below.refl w.heap.size w).alloc (Nat.le_refl _) (.cells (ceA e (.slice p l c)) 30)
  have hn := hF.n
  have cA : Hid (∀ W, Below w.heap.size w W → Calls Tryz.prog 40 #[.slice p l c, .bool false] W fun r w' => r = .returned (.int .i64 (listE false none e.2.2.2)) ∧ Below W.heap.size W w') := fun W hW => ref_check (.slice p l c) e.2.2.2 false W (hS.below hW) (hR.below hW).row hF.A (by omega)
  have cU : Hid (∀ W, Below w.heap.size w W → Calls Tryz.prog 38 #[.string e.2.1] W fun r w' => r = .returned (.bool (decide (brk e.2.1.data.toList = e.2.1.size))) ∧ Below W.heap.size W w') := fun W hW => valid_any e.2.1 W (hS.below hW) (by have := hF.t; omega)
  have cV : Hid (∀ W, Below w.heap.size w W → Calls Tryz.prog 39 #[pl e.2.2.1.1 e.2.2.1.2.1 e.2.2.1.2.2] W fun r w' => r = .returned (.int .i64 (chkP e.2.2.1)) ∧ Below W.heap.size W w') := fun W hW => ref_chk _ _ _ W (by have := hF.v; omega)
  have hB5 : Hid (∀ w2, Below (w.alloc (.cells (ceA e (.slice p l c)) 30)).heap.size (w.alloc (.cells (ceA e (.slice p l c)) 30)) w2 → w2.cell? ⟨w.heap.size, 0, none⟩ = some (.int .i32 e.1) ∧ w2.cell? ⟨w.heap.size, 1, none⟩ = some (.string e.2.1) ∧ w2.cell? ⟨w.heap.size, 2, none⟩ = some (.int .i64 e.2.2.1.1) ∧ w2.cell? ⟨w.heap.size, 3, none⟩ = some (.int .i64 e.2.2.1.2.1) ∧ w2.cell? ⟨w.heap.size, 4, none⟩ = some (.string e.2.2.1.2.2) ∧ w2.cell? ⟨w.heap.size, 5, none⟩ = some (.slice p l c) ∧ Below w.heap.size w w2) := fun w2 hb => by
    have k0 : ∀ j, (w2.cell? ⟨w.heap.size, j, none⟩) = (w.alloc (.cells (ceA e (.slice p l c)) 30)).cell? ⟨w.heap.size, j, none⟩ := fun j => hb.cell (p := ⟨w.heap.size, j, none⟩) (by simp)
    refine ⟨?_, ?_, ?_, ?_, ?_, ?_, b0.trans (hb.mono b0.size)⟩
    all_goals (rw [k0]; simp)
  have hin : Hid (FitC e) := hF
  clear hS hR hF hn
  have hbox : ∀ w2, Below (w.alloc (.cells (ceA e (.slice p l c)) 30)).heap.size (w.alloc (.cells (ceA e (.slice p l c)) 30)) w2 → _ := hB5.out
  clear hB5
  have HB5 : Hid _ := hbox
  clear hbox
  by_cases hk : e.1 = -1
  · have hnb : ¬ badC e := fun h => h.1 hk
    have hop : opOf e = ⟨2, e.2.1, e.2.2.1, 0, e.2.2.2⟩ := if_pos hk
    rw [celE_op hnb, hop, insE_emb]
    obtain ⟨k, t, ⟨x, n, u⟩, A⟩ := e
    simp only at hk
    subst hk
    simp only [ceA] at b0 cA cU cV HB5 ⊢
    have ht := hin.out.t
    simp only at ht
    clear hnb hop hin
    by_cases h6 : t.toList.isEmpty = true ∨ 64 < t.size
    · rw [if_pos h6]
      by_cases h61 : (t.size : Int) < 1
      · clear h6 cA cU cV HB5
        go_enter Tryz.func12, Tryz.ntmps12
        go_wp2
        go_ret
        exact ⟨rfl, b0⟩
      · have h62 : (t.size : Int) > 64 := by
          rcases h6 with h | h
          · rw [size_emp] at h; omega
          · omega
        clear h6 cA cU cV HB5
        go_enter Tryz.func12, Tryz.ntmps12
        go_wp2
        go_ret
        exact ⟨rfl, b0⟩
    · rw [if_neg h6]
      have h61 : ¬ (t.size : Int) < 1 := by
        intro h
        exact h6 (Or.inl ((size_emp t).2 (by omega)))
      have h62 : ¬ (t.size : Int) > 64 := by
        intro h
        exact h6 (Or.inr (by omega))
      have cu := cU.out _ b0
      by_cases h1 : brk t.data.toList = t.size
      · rw [if_neg (by simpa using h1)]
        rw [decide_eq_true h1] at cu
        obtain ⟨z, hz⟩ : ∃ z, chkP (x, n, u) = z := ⟨_, rfl⟩
        simp only [hz] at cV ⊢
        cases z with
        | zero =>
          rw [if_neg (by simp)]
          obtain ⟨L, hL⟩ : ∃ x, listE false none A = x := ⟨_, rfl⟩
          rw [hL] at cA ⊢
          clear h6 h1 hz cU hL
          go_enter Tryz.func12, Tryz.ntmps12
          go_wp2_with fail
          refine cu.mono ?_; rintro r w2 ⟨rfl, b2⟩
          obtain ⟨y0, y1, y2, y3, y4, y5, bw2⟩ := HB5.out w2 b2
          have cv := cV.out w2 bw2
          clear cu cV
          go_wp2_with fail
          refine cv.mono ?_; rintro r w3 ⟨rfl, b3⟩
          have b23 := b2.trans (b3.mono b2.size)
          clear y0 y1 y2 y3 y4 y5 bw2 cv b2 b3
          obtain ⟨y0, y1, y2, y3, y4, y5, bw3⟩ := HB5.out w3 b23
          have ca := cA.out w3 bw3
          clear cA HB5 b23
          go_wp2_with fail
          refine ca.mono ?_; rintro r w4 ⟨rfl, b4⟩
          have bw4 := bw3.trans (b4.mono bw3.size)
          clear ca b4
          go_wp2
          go_ret
          exact ⟨rfl, bw4⟩
        | succ z =>
          rw [if_pos (by simp)]
          have hz1 : (((z + 1 : Nat) : Int) != 0) = true := by rw [bne_iff_ne]; omega
          clear h6 h1 hz cU cA
          obtain ⟨zz, hzz⟩ : ∃ zz : Int, ((z + 1 : Nat) : Int) = zz := ⟨_, rfl⟩
          rw [hzz] at cV hz1 ⊢
          clear hzz
          go_enter Tryz.func12, Tryz.ntmps12
          go_wp2_with fail
          refine cu.mono ?_; rintro r w2 ⟨rfl, b2⟩
          obtain ⟨y0, y1, y2, y3, y4, y5, bw2⟩ := HB5.out w2 b2
          have cv := cV.out w2 bw2
          clear cu cV
          go_wp2_with fail
          refine cv.mono ?_; rintro r w3 ⟨rfl, b3⟩
          have bw3 := bw2.trans (b3.mono bw2.size)
          clear cv b3
          go_wp2
          go_ret
          exact ⟨rfl, bw3⟩
      · rw [if_pos h1]
        rw [decide_eq_false h1] at cu
        clear h6 h1 cU cA cV
        go_enter Tryz.func12, Tryz.ntmps12
        go_wp2_with fail
        refine cu.mono ?_; rintro r w2 ⟨rfl, b2⟩
        have bw2 := b0.trans (b2.mono b0.size)
        clear cu
        go_wp2
        go_ret
        exact ⟨rfl, bw2⟩
  · by_cases hs : isScal e.1
    · obtain ⟨k, t, ⟨x, n, u⟩, A⟩ := e
      simp only at hk hs
      have gd := fun op x' y' w => guard_pl op x' y' (x, n, u) (0, 0, ⟨#[]⟩) w
      have hk0 : k ≥ 0 := by unfold isScal at hs; omega
      have hk1 : k ≤ 1114111 := by unfold isScal at hs; omega
      cases he : t.toList.isEmpty with
      | true =>
        have ht : t = ⟨#[]⟩ := by have := (emp_iff (t := t)).1 he; exact this
        by_cases hz : (x, n, u) = z0
        · have hnb : ¬ badC (k, t, (x, n, u), A) := fun h => by
            rcases h.2 with h | h | h
            · exact h hs
            · exact h ht
            · exact h hz
          have hne := neq_pl (x, n, u) (0, 0, ⟨#[]⟩) false (by rw [hz]; show (!samP z0 z0) = false; rw [samP_self]; rfl)
          rw [celE_op hnb]
          have hE : opE (opOf (k, t, (x, n, u), A)) = listE false none A := by
            obtain ⟨r, rfl, hr⟩ := scal_of hs
            rw [ht, hz, opOf_scal hr, opE_scal hr]
          rw [hE]
          simp only [ceA] at b0 cA HB5 ⊢
          obtain ⟨L, hL⟩ : ∃ x, listE false none A = x := ⟨_, rfl⟩
          rw [hL] at cA ⊢
          have ca := cA.out _ b0
          clear hnb hz hE hL cU cV hin cA ht
          rcases hs with ⟨_, h2⟩ | ⟨h2, _⟩
          · go_enter Tryz.func12, Tryz.ntmps12
            go_wp2_with fail
            refine ca.mono ?_; rintro r w2 ⟨rfl, b2⟩
            have bw2 := b0.trans (b2.mono b0.size)
            clear ca
            go_wp2
            go_ret
            exact ⟨rfl, bw2⟩
          · have h3 : ¬ k < 55296 := by omega
            have h4 : k > 57343 := by omega
            go_enter Tryz.func12, Tryz.ntmps12
            go_wp2_with fail
            refine ca.mono ?_; rintro r w2 ⟨rfl, b2⟩
            have bw2 := b0.trans (b2.mono b0.size)
            clear ca
            go_wp2
            go_ret
            exact ⟨rfl, bw2⟩
        · have hb : badC (k, t, (x, n, u), A) := ⟨hk, Or.inr (Or.inr hz)⟩
          have hne := neq_pl (x, n, u) (0, 0, ⟨#[]⟩) true (by show (!samP (x, n, u) z0) = true; rw [samP_ne hz]; rfl)
          rw [celE_bad hb]
          simp only [ceA] at b0
          clear hb hz cU cV cA hin HB5 ht
          rcases hs with ⟨_, h2⟩ | ⟨h2, _⟩
          · go_enter Tryz.func12, Tryz.ntmps12
            go_wp2
            go_ret
            exact ⟨rfl, b0⟩
          · have h3 : ¬ k < 55296 := by omega
            have h4 : k > 57343 := by omega
            go_enter Tryz.func12, Tryz.ntmps12
            go_wp2
            go_ret
            exact ⟨rfl, b0⟩
      | false =>
        have hb : badC (k, t, (x, n, u), A) := ⟨hk, Or.inr (Or.inl (fun h => by simp only at h; have h2 := (emp_iff (t := t)).2 h; rw [he] at h2; cases h2))⟩
        rw [celE_bad hb]
        simp only [ceA] at b0
        clear hb cU cV cA hin HB5
        rcases hs with ⟨_, h2⟩ | ⟨h2, _⟩
        · go_enter Tryz.func12, Tryz.ntmps12
          go_wp2
          go_ret
          exact ⟨rfl, b0⟩
        · have h3 : ¬ k < 55296 := by omega
          have h4 : k > 57343 := by omega
          go_enter Tryz.func12, Tryz.ntmps12
          go_wp2
          go_ret
          exact ⟨rfl, b0⟩
    · rw [celE_bad ⟨hk, Or.inl hs⟩]
      obtain ⟨k, t, ⟨x, n, u⟩, A⟩ := e
      simp only at hk hs
      simp only [ceA] at b0
      have hk2 : (k != -1) = true := by rw [bne_iff_ne]; exact hk
      clear cU cV cA hin HB5
      by_cases h1 : k < 0
      · have h2 : ¬ k ≥ 0 := by omega
        clear hs hk
        go_enter Tryz.func12, Tryz.ntmps12
        go_wp2
        go_ret
        exact ⟨rfl, b0⟩
      · by_cases h2 : k ≤ 1114111
        · have h3 : ¬ k < 55296 := by unfold isScal at hs; omega
          have h4 : ¬ k > 57343 := by unfold isScal at hs; omega
          have h5 : k ≥ 0 := by omega
          clear hs hk
          go_enter Tryz.func12, Tryz.ntmps12
          go_wp2
          go_ret
          exact ⟨rfl, b0⟩
        · have h5 : k ≥ 0 := by omega
          clear hs hk
          go_enter Tryz.func12, Tryz.ntmps12
          go_wp2
          go_ret
          exact ⟨rfl, b0⟩
end Go.Proofs.YtalfdjglbbmjcabGreatDoor

/- cells.Of of any list of cells. -/
namespace Go.Proofs.YtalfdjglbbmjcabGreatDoor
open Go Go.RowKit Go.Lib
set_option linter.unusedVariables false

/-- The number of the first cell that isn't good, and its error. -/
def celP : List C5 → Nat × Nat
  | [] => (0, 0)
  | o :: r => if celE o ≠ 0 then (0, celE o) else if (celP r).2 = 0 then (0, 0) else ((celP r).1 + 1, (celP r).2)
theorem cel_none : ∀ {E : List C5}, (∀ o ∈ E, celE o = 0) → celP E = (0, 0)
  | [], _ => rfl
  | o :: r, h => by
    have := cel_none (E := r) fun x hx => h x (List.mem_cons_of_mem _ hx)
    rw [celP, if_neg (by simpa using h o (List.mem_cons_self ..)), this]
    rfl
theorem cel_at : ∀ {E : List C5} {k : Nat} {o : C5}, E[k]? = some o → (∀ x ∈ E.take k, celE x = 0) → celE o ≠ 0 → celP E = (k, celE o)
  | [], k, o, h, _, _ => by simp at h
  | x :: r, 0, o, h, _, he => by
    obtain rfl : x = o := by simpa using h
    rw [celP, if_pos he]
  | x :: r, k + 1, o, h, hg, he => by
    have := cel_at (E := r) (k := k) (by simpa using h) (fun y hy => hg y (by rw [List.take_succ_cons]; exact List.mem_cons_of_mem _ hy)) he
    rw [celP, if_neg (by simpa using hg x (by rw [List.take_succ_cons]; exact List.mem_cons_self ..)), this, if_neg he]
theorem celP_zero {E : List C5} : (celP E).2 = 0 ↔ ∀ o ∈ E, celE o = 0 := by
  constructor
  · intro h
    induction E with
    | nil => intro o ho; cases ho
    | cons x r ih =>
      rw [celP] at h
      by_cases hx : celE x = 0
      · rw [if_neg (by simpa using hx)] at h
        have hr : (celP r).2 = 0 := by
          by_cases h2 : (celP r).2 = 0
          · exact h2
          · rw [if_neg h2] at h; exact h
        intro o ho
        rcases List.mem_cons.1 ho with rfl | ho
        · exact hx
        · exact ih hr o ho
      · rw [if_pos hx] at h; exact absurd h hx
  · intro h; rw [cel_none h]
theorem len5_op {e : C5} (h : celE e = 0) : len5 (opOf e) = 1 := by
  have hg := good_iff.1 h
  obtain ⟨_, hu, hk⟩ := opOf_good hg
  obtain ⟨k, t, v, A⟩ := e
  unfold len5
  rw [if_pos hk]
  unfold lenO
  rcases hg.1 with ⟨h1, _⟩ | ⟨r, h1, h2, h3, h4⟩
  · simp only at h1
    subst h1
    rw [if_neg (by rw [opOf_k]; simp)]; rfl
  · simp only at h1 h3 h4
    subst h1; subst h3; subst h4
    rw [opOf_scal h2, if_pos rfl, enc_scs h2]; rfl
theorem sums_cells : ∀ (F : List C5), (∀ e ∈ F, celE e = 0) → sumB (F.map opOf) = 0 ∧ sumR (F.map opOf) = F.length
  | [], _ => ⟨rfl, rfl⟩
  | e :: F, h => by
    obtain ⟨h1, h2⟩ := sums_cells F fun x hx => h x (List.mem_cons_of_mem _ hx)
    have he := h e (List.mem_cons_self ..)
    have hk := (opOf_good (good_iff.1 he)).2.2
    rw [List.map_cons, sumB_cons, sumR_cons, h1, h2, base_1 hk]
    have : resO (opOf e) = 1 := by unfold resO; rw [if_neg (by omega), len5_op he]
    rw [this]
    exact ⟨rfl, by rw [List.length_cons]; omega⟩
theorem not_bad {e : C5} (h : celE e = 0) : ¬ badC e := fun hb => by rw [celE_bad hb] at h; cases h
theorem okE_cells {F : List C5} (h : ∀ e ∈ F, celE e = 0) (hF : ∀ e ∈ F, FitC e) (ht : txtS (F.map opOf) ≤ 8388608) (hl : F.length ≤ 1048576) : OkE (F.map opOf) := by
  obtain ⟨h1, h2⟩ := sums_cells F h
  refine ⟨fun o ho => ?_, fun o ho => ?_, ht, by rw [List.length_map]; omega, by rw [h1]; decide, by rw [h2]; omega⟩
  · obtain ⟨e, he, rfl⟩ := List.mem_map.1 ho
    have := h e he
    rwa [celE_op (not_bad this)] at this
  · obtain ⟨e, he, rfl⟩ := List.mem_map.1 ho
    exact (hF e he).fit.fitA
set_option maxHeartbeats 4000000 in
set_option maxRecDepth 100000 in
theorem ofC_any {I : List Nat} {a : Nat → Addr} (v : Value) (D0 : List CV) (E : List C5) (w : World) (hI : ∀ i ∈ IxO, i ∈ I) (hS : Std I a w) (hrow : RowC w v D0) (hre : Are w D0 E) (hF : ∀ e ∈ E, FitC e) (hl : E.length ≤ 1048576) (ht : txtS (E.map opOf) ≤ 8388608) :
    Calls Tryz.prog 13 #[v] w fun r w' => ∃ dv, r = .returned (.tuple #[dv, .int .i64 (celP E).1, errOf a (celP E).2]) ∧ ((celP E).2 = 0 → DelV w' w.heap.size w.heap.size dv (docOf E)) ∧ ((celP E).2 ≠ 0 → dv = .pointer none) ∧ Below w.heap.size w w' := by
  have hDE := forall2_len hre
  obtain ⟨n, hn⟩ : ∃ n, D0.length = n := ⟨_, rfl⟩
  obtain ⟨p, cap, rfl, hcap, hnz, hc⟩ := hrow
  have cN := new_any (B := w.heap.size) (D := fun k => k < w.heap.size) w (Nat.le_refl _) (by omega)
  have HC : Hid (D0 ≠ [] → ∃ b off, p = some ⟨b, off, none⟩ ∧ InC w b off D0) := hc
  have HN : Hid (D0.length = n ∧ E.length = n) := ⟨hn, by rw [← hDE, hn]⟩
  have hl : n ≤ 1048576 := by rw [← hn, hDE]; exact hl
  have HF : Hid ((∀ e ∈ E, FitC e) ∧ txtS (E.map opOf) ≤ 8388608) := ⟨hF, ht⟩
  have HK : Hid (∀ W (k : Nat) d e, Below w.heap.size w W → D0[k]? = some d → E[k]? = some e → ∀ g, (∀ x, celE e = x + 1 → Calls Tryz.prog 42 #[.pointer (some ⟨g, 0, none⟩), ceV d] W fun r w' => r = .returned (errV a x) ∧ Below W.heap.size W w') ∧ (∀ F, ¬ badC e → Gath W w.heap.size (fun k => k < w.heap.size) g F → OkE (F ++ [opOf e]) → Calls Tryz.prog 42 #[.pointer (some ⟨g, 0, none⟩), ceV d] W fun r w' => r = .returned .nilIface ∧ Gath w' w.heap.size (fun k => k < w.heap.size) g (F ++ [opOf e]) ∧ FrB w.heap.size (fun k => k < w.heap.size) W w')) := fun W k d e hW h1 h2 g => by
    obtain ⟨y, hy, r1⟩ := forall2_get hre k d h1
    obtain rfl : y = e := Option.some.inj (hy.symm.trans h2)
    have fy := hF y (List.mem_of_getElem? hy)
    have hR := r1.2.2.2.below hW
    have hv : ceV d = ceP y (.slice d.2.2.2.1 d.2.2.2.2.1 d.2.2.2.2.2) := by
      obtain ⟨dk, dt, dv, ds⟩ := d
      obtain ⟨x1, x2, x3, _⟩ := r1
      simp only at x1 x2 x3
      subst x1; subst x2; subst x3; rfl
    rw [hv]
    exact ⟨fun x hx => pushC_no g y _ _ _ W hI (hS.below hW) hR fy x hx, fun F hb hG hO => pushC_ok y _ _ _ W hI (hS.below hW) hR fy hb hG hO (fun k hk => Nat.lt_of_lt_of_le hk hW.size)⟩
  have HE : Hid (∀ k d, D0[k]? = some d → ∃ e, E[k]? = some e) := fun k d h => by obtain ⟨y, hy, _⟩ := forall2_get hre k d h; exact ⟨y, hy⟩
  obtain ⟨g, hgs⟩ : ∃ g, w.heap.size = g := ⟨_, rfl⟩
  have cN' : Calls Tryz.prog 41 #[] w fun e w' => e = .returned (.pointer (some ⟨g, 0, none⟩)) ∧ Gath w' w.heap.size (fun k => k < w.heap.size) g [] ∧ Below w.heap.size w w' := by rw [← hgs]; exact cN
  rw [hn] at hcap ⊢
  clear hc hn hDE hre hnz hF hS ht cN hgs
  go_enter Tryz.func13, Tryz.ntmps13
  go_wp2_with fail
  refine cN'.mono ?_; rintro r w1 ⟨rfl, hg1, hb1⟩
  have HG1 : Hid (Gath w1 w.heap.size (fun k => k < w.heap.size) g []) := hg1
  clear cN' hg1
  go_wp2
  go_loopw [12] (fun i wr => ∃ (k : Nat), k ≤ n ∧ i = .int .i64 k ∧ Hid (Gath wr w.heap.size (fun k => k < w.heap.size) g ((E.take k).map opOf)) ∧ Hid (∀ e ∈ E.take k, celE e = 0) ∧ Below w.heap.size w wr) (fun i _ => n - (RowKit.intOf i).toNat)
  case atStart => exact ⟨0, Nat.zero_le _, rfl, by rw [List.take_zero]; exact HG1, fun e he => (by rw [List.take_zero] at he; cases he), hb1⟩
  case round =>
    clear HG1 hb1
    obtain ⟨k, hk, rfl, HG, HO, hbw⟩ := hrel
    by_cases hlt : k < n
    · have hltI : (k : Int) < n := by omega
      obtain ⟨d, hd⟩ : ∃ d, D0[k]? = some d := ⟨_, List.getElem?_eq_getElem (by rw [HN.out.1]; exact hlt)⟩
      obtain ⟨e, he⟩ := HE.out k d hd
      obtain ⟨b, off, rfl, hin⟩ := HC.out (by intro e; rw [e] at hd; simp at hd)
      obtain ⟨x0, x1, x2, x3, x4, x5⟩ := cellsC_get D0 k d hd
      have c0 := (hin.below hbw) _ _ x0
      have c1 := (hin.below hbw) _ _ x1
      have c2 := (hin.below hbw) _ _ x2
      have c3 := (hin.below hbw) _ _ x3
      have c4 := (hin.below hbw) _ _ x4
      have c5 := (hin.below hbw) _ _ x5
      simp only [← Nat.add_assoc] at c0 c1 c2 c3 c4 c5
      have bw : Below wr.heap.size wr (wr.alloc (.cells (ceC d) 30)) := (Below.refl _ _).alloc (Nat.le_refl _) _
      have ba : Below w.heap.size w (wr.alloc (.cells (ceC d) 30)) := hbw.trans (bw.mono hbw.size)
      obtain ⟨cB, cG⟩ := HK.out _ k d e ba hd he g
      have HGa : Hid (Gath (wr.alloc (.cells (ceC d) 30)) w.heap.size (fun k => k < w.heap.size) g ((E.take k).map opOf)) := BldE.below HG.out bw
      have HT : Hid (E.take (k + 1) = E.take k ++ [e] ∧ E[k]? = some e) := by refine ⟨?_, he⟩; rw [List.take_add_one, he]; rfl
      obtain ⟨rz, hrz⟩ : ∃ z, celE e = z := ⟨_, rfl⟩
      cases rz with
      | zero =>
        have HO2 : Hid (∀ e ∈ E.take (k + 1), celE e = 0) := by
          show ∀ e ∈ E.take (k + 1), celE e = 0
          rw [HT.out.1]
          intro y hy
          rcases List.mem_append.1 hy with hy | hy
          · exact HO.out y hy
          · rw [List.mem_singleton.1 hy]; exact hrz
        have hok : OkE ((E.take k).map opOf ++ [opOf e]) := by
          have := okE_cells HO2.out (fun y hy => HF.out.1 y (List.mem_of_mem_take hy)) (by rw [List.map_take]; exact Nat.le_trans (txtS_take _ _) HF.out.2) (by rw [List.length_take]; omega)
          rwa [HT.out.1, List.map_append] at this
        have cP := cG ((E.take k).map opOf) (not_bad hrz) HGa.out hok
        have hm : (E.take k).map opOf ++ [opOf e] = (E.take (k + 1)).map opOf := by rw [HT.out.1, List.map_append]; rfl
        rw [hm] at cP
        clear cB cG HG HGa HO hin hd he hrz HT hok hm x0 x1 x2 x3 x4 x5
        obtain ⟨dk, dt, ⟨dx, dn, du⟩, ds⟩ := d
        obtain ⟨dp, dl, dcap⟩ := ds
        simp only [slV, ceC, ceV] at c0 c1 c2 c3 c4 c5 cP ba bw
        go_wp2_with fail
        refine cP.mono ?_; rintro r w5 ⟨rfl, h5, f5⟩
        have b5 : Below w.heap.size w w5 := ba.trans f5.below
        have HG5 : Hid (Gath w5 w.heap.size (fun k => k < w.heap.size) g ((E.take (k + 1)).map opOf)) := h5
        clear cP c0 c1 c2 c3 c4 c5 ba bw h5 f5
        go_wp2
        go_roundw
        case rel => exact ⟨k + 1, by omega, by go_num, HG5, HO2, b5⟩
        case measure => simp [RowKit.intOf]; omega
      | succ x =>
        have HB : Hid (celP E = (k, x + 1)) := by
          have := cel_at he HO.out (by rw [hrz]; omega)
          rw [hrz] at this
          exact this
        have cP := cB x hrz
        clear cB cG HG HGa HO hin hd he hrz HT x0 x1 x2 x3 x4 x5
        obtain ⟨dk, dt, ⟨dx, dn, du⟩, ds⟩ := d
        obtain ⟨dp, dl, dcap⟩ := ds
        simp only [slV, ceC, ceV] at c0 c1 c2 c3 c4 c5 cP ba bw
        go_wp2_with fail
        refine cP.mono ?_; rintro r w5 ⟨rfl, hb5⟩
        have b5 := ba.trans (hb5.mono ba.size)
        clear cP c0 c1 c2 c3 c4 c5 ba bw hb5
        go_wp2
        go_ret3
        exact ⟨.pointer none, by rw [HB.out]; rfl, fun h => (by rw [HB.out] at h; cases h), fun _ => rfl, b5⟩
    · have hltI : ¬ (k : Int) < n := by omega
      have hE : E.take k = E := List.take_of_length_le (by rw [HN.out.2]; omega)
      rw [hE] at HG HO
      have HB : Hid (celP E = (0, 0)) := cel_none HO.out
      have cD := delta_any wr HG.out (okE_cells HO.out HF.out.1 HF.out.2 (by rw [HN.out.2]; exact hl))
      clear hE HG HO
      go_wp2_with fail
      refine cD.mono ?_; rintro r w5 ⟨dv, rfl, h5, hb5⟩
      have H5 : Hid (DelV w5 w.heap.size w.heap.size dv (docOf E)) := by
        obtain ⟨q, pv, PL, x1, x2, x3, x4, x5⟩ := h5
        exact ⟨q, pv, PL, x1, Nat.le_trans hbw.size x2, x3, own_weaken x4 hbw.size, x5⟩
      have b5 := hbw.trans (hb5.mono hbw.size)
      clear cD h5 hb5
      go_wp2
      go_ret3
      exact ⟨dv, by rw [HB.out]; rfl, fun _ => H5.out, fun h => absurd (by rw [HB.out]) h, b5⟩
end Go.Proofs.YtalfdjglbbmjcabGreatDoor

/- What vellumref04.Refuse and Check answer: what an insert is refused with. -/
namespace Go.Proofs.YtalfdjglbbmjcabGreatDoor
open Go Go.RowKit Go.Lib
set_option linter.unusedVariables false

theorem Fit.tiny {o : Op5} (h : Fit o) : Tiny o.A := h.A

end Go.Proofs.YtalfdjglbbmjcabGreatDoor

/- What vellumref04.copied and vellumref04.Join answer. -/
namespace Go.Proofs.YtalfdjglbbmjcabGreatDoor
open Go Go.RowKit Go.Lib
set_option linter.unusedVariables false
end Go.Proofs.YtalfdjglbbmjcabGreatDoor

/- What vellumref04.Length answers of inserts. -/
namespace Go.Proofs.YtalfdjglbbmjcabGreatDoor
open Go Go.RowKit Go.Lib
set_option linter.unusedVariables false
end Go.Proofs.YtalfdjglbbmjcabGreatDoor

/- What vellumref04.Length, Cells and Newlines answer of inserts. -/
namespace Go.Proofs.YtalfdjglbbmjcabGreatDoor
open Go Go.RowKit Go.Lib
set_option linter.unusedVariables false

theorem ub10 (z : Int) (h : 128 ≤ z) (h1 : z < 256) : ¬ z.toNat.toUInt8 = 10 := fun e => by
  have := congrArg UInt8.toNat e
  rw [u8_nat z (by omega) h1] at this
  simp at this
  omega
theorem count_enc {r : Nat} (h : scal r) : (enc r).count 10 = if r = 10 then 1 else 0 := by
  have h' := h
  unfold scal at h'
  by_cases h1 : r < 128
  · rw [enc_one h1]
    by_cases h0 : r = 10
    · subst h0; rfl
    · rw [if_neg h0, List.count_eq_zero]
      intro hm
      have e := congrArg UInt8.toNat (List.mem_singleton.1 hm)
      rw [u8_nat _ (by omega) (by omega)] at e
      simp at e
      omega
  · rw [if_neg (by omega), List.count_eq_zero]
    intro hm
    by_cases h2 : r < 2048
    · rw [enc_two (by omega) h2] at hm
      simp only [List.mem_cons, List.not_mem_nil, or_false] at hm
      rcases hm with e | e <;> exact ub10 _ (by omega) (by omega) e.symm
    by_cases h3 : r < 65536
    · rw [enc_three (by omega) h3 h] at hm
      simp only [List.mem_cons, List.not_mem_nil, or_false] at hm
      rcases hm with e | e | e <;> exact ub10 _ (by omega) (by omega) e.symm
    · rw [enc_four (by omega) (by omega)] at hm
      simp only [List.mem_cons, List.not_mem_nil, or_false] at hm
      rcases hm with e | e | e | e <;> exact ub10 _ (by omega) (by omega) e.symm
theorem count_encs : ∀ (rs : List Nat), (∀ r ∈ rs, scal r) → (encs rs).count 10 = rs.countP (fun r => ((r : Nat) : Int) == 10)
  | [], _ => rfl
  | r :: rs, h => by
    rw [encs, List.count_append, count_enc (h r (by simp)), count_encs rs (fun x hx => h x (by simp [hx])), List.countP_cons]
    by_cases h0 : r = 10
    · subst h0; simp; omega
    · have : (((r : Nat) : Int) == 10) = false := by simp; omega
      rw [if_neg h0, this]
      simp
/-- How many cells of a list are newlines. -/
def newlC (L : List C5) : Nat := L.countP fun e => e.1 == 10
theorem newlC_of {o : Op5} (h : Ins o) : newlC (cellsOf o) = newlO o := by
  unfold newlC cellsOf newlO
  split
  · obtain ⟨h1, h2, _⟩ := valid_text o.t h.utf
    unfold mkC countByte
    rw [List.countP_map]
    conv => rhs; rw [h2]
    rw [count_encs _ h1]
    rfl
  · rfl
theorem newlC_le (L : List C5) : newlC L ≤ L.length := List.countP_le_length

/-- All blocks of numbers are as they were. -/
def Keep32 (w w' : World) : Prop := ∀ (k : Nat) (cur : Array Value), w.heap[k]? = some (.cells cur 21 (0, 0)) → w'.heap[k]? = w.heap[k]?
theorem keep32_below {w w' : World} (hb : Below w.heap.size w w') : Keep32 w w' := fun k cur hk => hb.block k (Array.getElem?_eq_some_iff.1 hk).1
theorem keep32_own {w w' : World} {B : Nat} {v : Value} {zs : List Int} (h : Own32 B w v zs) (hk : Keep32 w w') : Own32 B w' v zs := by
  obtain ⟨hl, h⟩ := h
  refine ⟨hl, ?_⟩
  rcases h with h | ⟨g, cap, cur, h1, h2, h3, h4⟩
  · exact Or.inl h
  · exact Or.inr ⟨g, cap, cur, h1, h2, (hk g cur h3).trans h3, h4⟩
theorem keep32_grown {w w' : World} {B : Nat} {v : Value} {D : List CV} (h : OwnC w B v D) (g : w.grownBy w' v.ownBlock) : Keep32 w w' := fun k cur hk => by
  refine g.block k (Array.getElem?_eq_some_iff.1 hk).1 fun e => ?_
  rcases h.2 with ⟨rfl, _⟩ | ⟨b, cap, cur', rfl, _, h3, _⟩
  · cases e
  · simp only [Value.ownBlock, Option.some.injEq] at e
    subst e
    rw [h3] at hk
    simp only [Option.some.injEq, Obj.cells.injEq] at hk
    exact absurd hk.2.1 (by decide)

end Go.Proofs.YtalfdjglbbmjcabGreatDoor

/- The document's deltas: Same, SameOp, Insert, Len. -/
namespace Go.Proofs.YtalfdjglbbmjcabGreatDoor
open Go Go.RowKit Go.Lib
set_option linter.unusedVariables false

set_option maxHeartbeats 1000000 in
theorem same6o_any (o o' : Op5) (s s' : Value) (w : World) (hA : RowA w s o.A) (hB : RowA w s' o'.A) (hl : o.A.length ≤ 4194304) (hl2 : o'.A.length ≤ 4194304) :
    Calls Tryz.prog 72 #[opV o s, opV o' s'] w fun r w' => r = .returned (.bool (decide (o = o'))) ∧ Below w.heap.size w w' := by
  have b0 := ((Below.refl w.heap.size w).alloc (Nat.le_refl _) (.cells (opC o s) 69)).alloc (by simp) (.cells (opC o' s') 69)
  have cS := from_below b0 (refSame_any s s' o.A o'.A _ (hA.below b0) (hB.below b0) (by omega) (by omega))
  obtain ⟨pa, ca, rfl, _⟩ := hA.val
  obtain ⟨pb, cb, rfl, _⟩ := hB.val
  obtain ⟨k, t, ⟨x, n, u⟩, c, A⟩ := o
  obtain ⟨k', t', ⟨x', n', u'⟩, c', A'⟩ := o'
  simp only at cS
  simp only [opC] at b0 cS
  clear hA hB hl hl2
  have gd := fun op e e' w => guard_pl op e e' (x, n, u) (x', n', u') w
  by_cases hk : k = k'
  · subst hk
    by_cases ht : t = t'
    · subst ht
      have q1 := beq_key (x := t) (y := t) true (decide_eq_true rfl)
      by_cases hv : ((x, n, u) : P3) = (x', n', u')
      · have hne := eql_pl (x, n, u) (x', n', u') true (by rw [hv, samP_self])
        by_cases hc : c = c'
        · subst hc
          have hd : decide (({ k := k, t := t, v := (x, n, u), c := c, A := A } : Op5) = { k := k, t := t, v := (x', n', u'), c := c, A := A' }) = decide (A = A') := by
            simp only [Op5.mk.injEq, true_and, hv]
          rw [hd]
          generalize decide (A = A') = R at cS ⊢
          clear hd hv
          go_enter Tryz.func72, Tryz.ntmps72
          go_wp2_with fail
          refine cS.mono ?_; rintro r w2 ⟨rfl, hb2⟩
          go_wp2
          go_ret
          exact ⟨rfl, hb2⟩
        · rw [decide_eq_false (by intro e; exact hc (congrArg Op5.c e))]
          have hcc : (c == c') = false := by simpa using hc
          clear cS hv hc
          go_enter Tryz.func72, Tryz.ntmps72
          go_wp2
          go_ret
          exact ⟨rfl, b0⟩
      · rw [decide_eq_false (by intro e; exact hv (congrArg Op5.v e))]
        have hne := eql_pl (x, n, u) (x', n', u') false (samP_ne hv)
        clear cS hv
        go_enter Tryz.func72, Tryz.ntmps72
        go_wp2
        go_ret
        exact ⟨rfl, b0⟩
    · rw [decide_eq_false (by intro e; exact ht (congrArg Op5.t e))]
      have q1 := beq_key (x := t) (y := t') false (decide_eq_false ht)
      clear cS ht gd
      go_enter Tryz.func72, Tryz.ntmps72
      go_wp2
      go_ret
      exact ⟨rfl, b0⟩
  · rw [decide_eq_false (by intro e; exact hk (congrArg Op5.k e))]
    have hkk : (k == k') = false := by simpa using hk
    clear cS hk gd
    go_enter Tryz.func72, Tryz.ntmps72
    go_wp2
    go_ret
    exact ⟨rfl, b0⟩

set_option maxHeartbeats 2000000 in
set_option maxRecDepth 100000 in
theorem same6_any (v v' : Value) (E E' : List Op5) (w : World) (h : ReO w v E) (h' : ReO w v' E') (hl : E.length ≤ 2097152) (hl' : E'.length ≤ 2097152) (hA : ∀ e ∈ E, e.A.length ≤ 1048576) (hA' : ∀ e ∈ E', e.A.length ≤ 1048576) :
    Calls Tryz.prog 46 #[v, v'] w fun r w' => r = .returned (.bool (decide (E = E'))) ∧ Below w.heap.size w w' := by
  obtain ⟨D, hrow, hre⟩ := h
  obtain ⟨D', hrow', hre'⟩ := h'
  have hE := forall2_len hre
  have hE' := forall2_len hre'
  obtain ⟨n, hn⟩ : ∃ n, D.length = n := ⟨_, rfl⟩
  obtain ⟨m, hm⟩ : ∃ m, D'.length = m := ⟨_, rfl⟩
  obtain ⟨pa, ca, rfl, ha, _, hca⟩ := hrow
  obtain ⟨pb, cb, rfl, hb, _, hcb⟩ := hrow'
  rw [hn] at ha hE ⊢
  rw [hm] at hb hE' ⊢
  have HN : Hid (D.length = n ∧ D'.length = m ∧ E.length = n ∧ E'.length = m) := ⟨hn, hm, hE.symm, hE'.symm⟩
  by_cases hnm : n = m
  · subst hnm
    have HA : Hid (∀ (j : Nat) (d : OV), D[j]? = some d → ∃ b off, pa = some ⟨b, off, none⟩ ∧ OpAt w b (off + j * 7) d) := hca
    have HB : Hid (∀ (j : Nat) (d : OV), D'[j]? = some d → ∃ b off, pb = some ⟨b, off, none⟩ ∧ OpAt w b (off + j * 7) d) := hcb
    have hl : n ≤ 2097152 := by omega
    have CC : Hid (∀ (k : Nat) d d', D[k]? = some d → D'[k]? = some d' → ∃ e e', E[k]? = some e ∧ E'[k]? = some e' ∧ ∀ W, Below w.heap.size w W → Calls Tryz.prog 72 #[ovV d, ovV d'] W fun r w' => r = .returned (.bool (decide (e = e'))) ∧ Below W.heap.size W w') := fun k d d' h1 h2 => by
      obtain ⟨y, hy, r1⟩ := forall2_get hre k d h1
      obtain ⟨y', hy', r2⟩ := forall2_get hre' k d' h2
      refine ⟨y, y', hy, hy', fun W hW => ?_⟩
      rw [opV_of r1, opV_of r2]
      have h3 := hA y (List.mem_of_getElem? hy)
      have h4 := hA' y' (List.mem_of_getElem? hy')
      exact same6o_any y y' _ _ W (r1.2.2.2.2.below hW).row (r2.2.2.2.2.below hW).row (by omega) (by omega)
    clear hca hcb hn hm hre hre' hE hE' hA hA' hl'
    go_enter Tryz.func46, Tryz.ntmps46
    go_wp2
    go_loopw [13] (fun i wr => ∃ (k : Nat), k ≤ n ∧ i = .int .i64 k ∧ Hid (E.take k = E'.take k) ∧ Below w.heap.size w wr) (fun i _ => n - (RowKit.intOf i).toNat)
    case atStart => exact ⟨0, Nat.zero_le _, rfl, rfl, Below.refl _ _⟩
    case round =>
      obtain ⟨k, hk, rfl, HT, hbw⟩ := hrel
      by_cases hlt : k < n
      · have hltI : (k : Int) < n := by omega
        obtain ⟨d, hd⟩ : ∃ q, D[k]? = some q := ⟨_, List.getElem?_eq_getElem (by rw [HN.out.1]; exact hlt)⟩
        obtain ⟨d', hd'⟩ : ∃ q, D'[k]? = some q := ⟨_, List.getElem?_eq_getElem (by rw [HN.out.2.1]; exact hlt)⟩
        obtain ⟨e, e', he, he', cc⟩ := CC.out k d d' hd hd'
        obtain ⟨b, off, rfl, hin⟩ := HA.out k d hd
        obtain ⟨b', off', rfl, hin'⟩ := HB.out k d' hd'
        obtain ⟨c0, c1, c2, c3, c4, c5, c6⟩ := hin.below hbw
        obtain ⟨d0, d1, d2, d3, d4, d5, d6⟩ := hin'.below hbw
        have HEE : Hid (E[k]? = some e ∧ E'[k]? = some e') := ⟨he, he'⟩
        clear hin hin' hd hd' he he'
        obtain ⟨f, t, ⟨x, z, u⟩, cc1, p, j, c⟩ := d
        obtain ⟨f', t', ⟨x', z', u'⟩, cc1', p', j', c'⟩ := d'
        simp only [slV] at c0 c1 c2 c3 c4 c5 c6 d0 d1 d2 d3 d4 d5 d6
        simp only [ovV, ovC, slV] at cc
        have HU : Hid (∀ w', Below wr.drew.heap.size wr.drew w' → (w'.cell? ⟨b, off + k * 7, none⟩ = some (.int .i64 f) ∧ w'.cell? ⟨b, off + k * 7 + 1, none⟩ = some (.string t) ∧ w'.cell? ⟨b, off + k * 7 + 2, none⟩ = some (.int .i64 x) ∧ w'.cell? ⟨b, off + k * 7 + 3, none⟩ = some (.int .i64 z) ∧ w'.cell? ⟨b, off + k * 7 + 4, none⟩ = some (.string u) ∧ w'.cell? ⟨b, off + k * 7 + 5, none⟩ = some (.int .i64 cc1) ∧ w'.cell? ⟨b, off + k * 7 + 6, none⟩ = some (.slice p j c) ∧ w'.cell? ⟨b', off' + k * 7, none⟩ = some (.int .i64 f') ∧ w'.cell? ⟨b', off' + k * 7 + 1, none⟩ = some (.string t') ∧ w'.cell? ⟨b', off' + k * 7 + 2, none⟩ = some (.int .i64 x') ∧ w'.cell? ⟨b', off' + k * 7 + 3, none⟩ = some (.int .i64 z') ∧ w'.cell? ⟨b', off' + k * 7 + 4, none⟩ = some (.string u') ∧ w'.cell? ⟨b', off' + k * 7 + 5, none⟩ = some (.int .i64 cc1') ∧ w'.cell? ⟨b', off' + k * 7 + 6, none⟩ = some (.slice p' j' c'))) := fun w' hb => ⟨(hb.cell (lt_of_cell (w := wr.drew) c0)).trans c0, (hb.cell (lt_of_cell (w := wr.drew) c1)).trans c1, (hb.cell (lt_of_cell (w := wr.drew) c2)).trans c2, (hb.cell (lt_of_cell (w := wr.drew) c3)).trans c3, (hb.cell (lt_of_cell (w := wr.drew) c4)).trans c4, (hb.cell (lt_of_cell (w := wr.drew) c5)).trans c5, (hb.cell (lt_of_cell (w := wr.drew) c6)).trans c6, (hb.cell (lt_of_cell (w := wr.drew) d0)).trans d0, (hb.cell (lt_of_cell (w := wr.drew) d1)).trans d1, (hb.cell (lt_of_cell (w := wr.drew) d2)).trans d2, (hb.cell (lt_of_cell (w := wr.drew) d3)).trans d3, (hb.cell (lt_of_cell (w := wr.drew) d4)).trans d4, (hb.cell (lt_of_cell (w := wr.drew) d5)).trans d5, (hb.cell (lt_of_cell (w := wr.drew) d6)).trans d6⟩
        have hz0 : w.heap.size ≤ wr.drew.heap.size := hbw.size
        obtain ⟨q, hq⟩ : ∃ q, decide (e = e') = q := ⟨_, rfl⟩
        rw [hq] at cc
        have HQ : Hid (decide (e = e') = q) := hq
        clear hq
        cases q with
        | true =>
          have HT2 : Hid (E.take (k + 1) = E'.take (k + 1)) := take_eq_snoc HT.out HEE.out.1 HEE.out.2 (of_decide_eq_true HQ.out)
          go_wp2_with fail
          go_region_held3 (fun w' => (w'.cell? ⟨b, off + k * 7, none⟩ = some (.int .i64 f) ∧ w'.cell? ⟨b, off + k * 7 + 1, none⟩ = some (.string t) ∧ w'.cell? ⟨b, off + k * 7 + 2, none⟩ = some (.int .i64 x) ∧ w'.cell? ⟨b, off + k * 7 + 3, none⟩ = some (.int .i64 z) ∧ w'.cell? ⟨b, off + k * 7 + 4, none⟩ = some (.string u) ∧ w'.cell? ⟨b, off + k * 7 + 5, none⟩ = some (.int .i64 cc1) ∧ w'.cell? ⟨b, off + k * 7 + 6, none⟩ = some (.slice p j c) ∧ w'.cell? ⟨b', off' + k * 7, none⟩ = some (.int .i64 f') ∧ w'.cell? ⟨b', off' + k * 7 + 1, none⟩ = some (.string t') ∧ w'.cell? ⟨b', off' + k * 7 + 2, none⟩ = some (.int .i64 x') ∧ w'.cell? ⟨b', off' + k * 7 + 3, none⟩ = some (.int .i64 z') ∧ w'.cell? ⟨b', off' + k * 7 + 4, none⟩ = some (.string u') ∧ w'.cell? ⟨b', off' + k * 7 + 5, none⟩ = some (.int .i64 cc1') ∧ w'.cell? ⟨b', off' + k * 7 + 6, none⟩ = some (.slice p' j' c')) ∧ Below w.heap.size w w')
            (exact ⟨by first | (with_reducible assumption) | (simp [*]; done), by first | (with_reducible assumption) | exact hbw.drew⟩)
            (first | (go_at_call 72; refine (cc _ ?_).mono ?_; (· first | assumption | exact hbw.drew | (apply And.right; assumption)); rintro r w3 ⟨rfl, b3⟩; have b4 : Below w.heap.size w w3 := (hbw.drew).trans (b3.mono hz0); have mm := HU.out _ b3))
          clear cc mm b3
          go_wp2
          go_roundw
          case rel => exact ⟨k + 1, by omega, by go_num, HT2, b4⟩
          case measure => simp [RowKit.intOf]; omega
        | false =>
          have hfin : Hid (decide (E = E') = false) := decide_eq_false (ne_at HEE.out.1 HEE.out.2 (of_decide_eq_false HQ.out))
          go_wp2_with fail
          go_region_held3 (fun w' => (w'.cell? ⟨b, off + k * 7, none⟩ = some (.int .i64 f) ∧ w'.cell? ⟨b, off + k * 7 + 1, none⟩ = some (.string t) ∧ w'.cell? ⟨b, off + k * 7 + 2, none⟩ = some (.int .i64 x) ∧ w'.cell? ⟨b, off + k * 7 + 3, none⟩ = some (.int .i64 z) ∧ w'.cell? ⟨b, off + k * 7 + 4, none⟩ = some (.string u) ∧ w'.cell? ⟨b, off + k * 7 + 5, none⟩ = some (.int .i64 cc1) ∧ w'.cell? ⟨b, off + k * 7 + 6, none⟩ = some (.slice p j c) ∧ w'.cell? ⟨b', off' + k * 7, none⟩ = some (.int .i64 f') ∧ w'.cell? ⟨b', off' + k * 7 + 1, none⟩ = some (.string t') ∧ w'.cell? ⟨b', off' + k * 7 + 2, none⟩ = some (.int .i64 x') ∧ w'.cell? ⟨b', off' + k * 7 + 3, none⟩ = some (.int .i64 z') ∧ w'.cell? ⟨b', off' + k * 7 + 4, none⟩ = some (.string u') ∧ w'.cell? ⟨b', off' + k * 7 + 5, none⟩ = some (.int .i64 cc1') ∧ w'.cell? ⟨b', off' + k * 7 + 6, none⟩ = some (.slice p' j' c')) ∧ Below w.heap.size w w')
            (exact ⟨by first | (with_reducible assumption) | (simp [*]; done), by first | (with_reducible assumption) | exact hbw.drew⟩)
            (first | (go_at_call 72; refine (cc _ ?_).mono ?_; (· first | assumption | exact hbw.drew | (apply And.right; assumption)); rintro r w3 ⟨rfl, b3⟩; have b4 : Below w.heap.size w w3 := (hbw.drew).trans (b3.mono hz0); have mm := HU.out _ b3))
          clear cc mm b3
          go_wp2
          go_ret
          exact ⟨by rw [hfin.out]; rfl, b4⟩
      · have hltI : ¬ (k : Int) < n := by omega
        have hfin : Hid (decide (E = E') = true) := decide_eq_true (by
          have := HT.out
          rwa [List.take_of_length_le (by rw [HN.out.2.2.1]; omega), List.take_of_length_le (by rw [HN.out.2.2.2]; omega)] at this)
        go_wp2
        go_ret
        exact ⟨by rw [hfin.out]; rfl, hbw⟩
  · have hne : ((n : Int) != m) = true := by simp; omega
    have hfin : Hid (decide (E = E') = false) := decide_eq_false (fun h => hnm (by rw [← HN.out.2.2.1, ← HN.out.2.2.2, h]))
    clear hca hcb hn hm hre hre' hE hE' hA hA' hnm HN hl hl'
    go_enter Tryz.func46, Tryz.ntmps46
    go_wp2
    go_ret
    exact ⟨by rw [hfin.out]; rfl, Below.refl _ _⟩

set_option maxHeartbeats 1000000 in
theorem ins6_any (o : Op5) (p : Option Addr) (l c : Nat) (w : World) : Calls Tryz.prog 60 #[opV o (.slice p l c)] w fun r w' => r = .returned (.bool (decide (o.k = 1 ∨ o.k = 2))) ∧ Below w.heap.size w w' := by
  obtain ⟨k, t, ⟨x, n, u⟩, cc, A⟩ := o
  simp only
  by_cases k1 : k = 1
  · subst k1
    rw [decide_eq_true (Or.inl rfl)]
    go_enter Tryz.func60, Tryz.ntmps60
    go_wp2
    go_ret
    exact ⟨rfl, by go_grown⟩
  · have e1 : (k == 1) = false := by simpa using k1
    by_cases k2 : k = 2
    · subst k2
      rw [decide_eq_true (Or.inr rfl)]
      go_enter Tryz.func60, Tryz.ntmps60
      go_wp2
      go_ret
      exact ⟨rfl, by go_grown⟩
    · have e2 : (k == 2) = false := by simpa using k2
      rw [decide_eq_false (by omega)]
      go_enter Tryz.func60, Tryz.ntmps60
      go_wp2
      go_ret
      exact ⟨rfl, by go_grown⟩
end Go.Proofs.YtalfdjglbbmjcabGreatDoor

/- The document's deltas: push: an operation put behind others. -/
namespace Go.Proofs.YtalfdjglbbmjcabGreatDoor
open Go Go.RowKit Go.Lib
set_option linter.unusedVariables false

/-- An operation in memory, its fields those of e. -/
abbrev FldE (d : OV) (e : Op5) : Prop := d.1 = e.k ∧ d.2.1 = e.t ∧ d.2.2.1 = e.v ∧ d.2.2.2.1 = e.c
/-- The cells of a row, one operation of it with another text and count. -/
theorem cellsO_set (F : List OV) (d : OV) (t : ByteArray) (c : Int) : ((cellsO (F ++ [d])).set (F.length * 7 + 1) (.string t)).set (F.length * 7 + 5) (.int .i64 c) = cellsO (F ++ [(d.1, t, d.2.2.1, c, d.2.2.2.2)]) := by
  rw [cellsO_append, cellsO_append]
  have hl := cellsO_len F
  rw [List.set_append_right _ _ (by omega), List.set_append_right _ _ (by omega), hl]
  rw [show F.length * 7 + 1 - F.length * 7 = 1 by omega, show F.length * 7 + 5 - F.length * 7 = 5 by omega]
  simp [cellsO]
theorem own_joinO {w : World} {B g cap : Nat} {F : List OV} {d : OV} (h : OwnO w B (.slice (some ⟨g, 0, none⟩) (F.length + 1) cap) (F ++ [d])) (t : ByteArray) (c : Int) :
    OwnO ((w.setCell ⟨g, F.length * 7 + 1, none⟩ (.string t)).setCell ⟨g, F.length * 7 + 5, none⟩ (.int .i64 c)) B (.slice (some ⟨g, 0, none⟩) (F.length + 1) cap) (F ++ [(d.1, t, d.2.2.1, c, d.2.2.2.2)]) := by
  have h' : w.ownsRow B 69 7 (.slice (some ⟨g, 0, none⟩) (F.length + 1) cap) (F.length + 1) (cellsO (F ++ [d])) := by
    have := h
    unfold OwnO at this
    rw [List.length_append] at this
    exact this
  have h1 := (h'.stored (F.length * 7 + 1) (.string t)).1
  have h2 := (h1.stored (F.length * 7 + 5) (.int .i64 c)).1
  rw [cellsO_set] at h2
  show World.ownsRow _ _ _ _ _ _ _
  rw [List.length_append]
  exact h2
/-- But for one row's block the memory stands. -/
structure Row1 (v : Value) (w w' : World) : Prop where
  os : w'.os = w.os
  tape : w'.tape = w.tape
  output : w'.output = w.output
  size : w.heap.size ≤ w'.heap.size
  block : ∀ k, k < w.heap.size → v.ownBlock ≠ some k → w'.heap[k]? = w.heap[k]?
theorem Row1.of_below {v : Value} {w w' : World} (h : Below w.heap.size w w') : Row1 v w w' := ⟨h.os, h.tape, h.output, h.size, fun k hk _ => h.block k hk⟩
theorem Row1.grown {v : Value} {a w w' : World} (h : Row1 v a w) (g : w.grownBy w' v.ownBlock) : Row1 v a w' :=
  ⟨g.os.trans h.os, g.tape.trans h.tape, g.output.trans h.output, Nat.le_trans h.size g.size, fun k hk hn => (g.block k (Nat.lt_of_lt_of_le hk h.size) (fun e => hn e.symm)).trans (h.block k hk hn)⟩
theorem Row1.setCell {v : Value} {a w : World} (h : Row1 v a w) {g : Nat} (hg : v.ownBlock = some g) (j : Nat) (u : Value) : Row1 v a (w.setCell ⟨g, j, none⟩ u) :=
  ⟨h.os, h.tape, h.output, by simpa [World.setCell] using h.size, fun k hk hn => (Below.heap_setCell _ _ _ _ (by intro e; obtain rfl : k = g := e; exact hn hg)).trans (h.block k hk hn)⟩
theorem Row1.drew {v : Value} {a w : World} (h : Row1 v a w) : Row1 v a w.drew := ⟨h.os, h.tape, h.output, h.size, h.block⟩
theorem Row1.below {v : Value} {w w' : World} {B : Nat} (h : Row1 v w w') (hB : B ≤ w.heap.size) (hv : ∀ k, v.ownBlock = some k → B ≤ k) : Below B w w' :=
  ⟨h.os, h.tape, h.output, h.size, fun k hk => h.block k (by omega) (fun e => by have := hv k e; omega)⟩
/-- What push answers: the row grown. -/
abbrev PushR (w0 : World) (B : Nat) (w w' : World) (v : Value) (e : Ending) (P : List Op5) : Prop := ∃ v' D', e = .returned v' ∧ OwnO w' B v' D' ∧ ReD w0 D' P ∧ Row1 v w w' ∧ (v'.ownBlock = v.ownBlock ∨ ∃ k, v'.ownBlock = some k ∧ w.heap.size ≤ k)

theorem Hid.mk' {p : Prop} (h : p) : Hid p := h
/-- What append finds behind the first region, from whatever world. -/
theorem push6_tail {w0 w : World} {B : Nat} {v : Value} {D : List OV} {P : List Op5} {o : Op5} {sp : Option Addr} {sl sc : Nat} (hB : B ≤ w.heap.size) (hw : Below w0.heap.size w0 w) (hv : OwnO w B v D) (hD : ReD w0 D P) (ho : RN w0 (.slice sp sl sc) o.A) (W1 : World) (h1 : Below w.heap.size w W1) :
    OwnO (W1.alloc (.cells (opC o (.slice sp sl sc)) 69)) B v D ∧ OpAt (W1.alloc (.cells (opC o (.slice sp sl sc)) 69)) W1.heap.size 0 (o.k, o.t, o.v, o.c, (sp, sl, sc)) ∧ B ≤ (W1.alloc (.cells (opC o (.slice sp sl sc)) 69)).heap.size ∧
      ∀ v8 w8, OwnO w8 B v8 (D ++ [(o.k, o.t, o.v, o.c, (sp, sl, sc))]) → (W1.alloc (.cells (opC o (.slice sp sl sc)) 69)).grownBy w8 v.ownBlock → (v8.ownBlock = v.ownBlock ∨ v8.ownBlock = some (W1.alloc (.cells (opC o (.slice sp sl sc)) 69)).heap.size) → PushR w0 B w w8 v (.returned v8) (P ++ [o]) := by
  have b1 : Below w.heap.size w (W1.alloc (.cells (opC o (.slice sp sl sc)) 69)) := h1.alloc h1.size _
  refine ⟨owns_below hv b1, ?_, Nat.le_trans hB b1.size, fun v8 w8 h2 h3 h4 => ⟨v8, _, rfl, h2, forall2_append hD (.cons ⟨rfl, rfl, rfl, rfl, ho⟩ .nil), (Row1.of_below b1).grown h3, h4.imp id (fun e => ⟨_, e, b1.size⟩)⟩⟩
  refine ⟨?_, ?_, ?_, ?_, ?_, ?_, ?_⟩ <;> simp [opC]
set_option maxHeartbeats 4000000 in
set_option maxRecDepth 100000 in
theorem push6_nil {w0 : World} {B : Nat} (v : Value) (D : List OV) (P : List Op5) (o : Op5) (sp : Option Addr) (sl sc : Nat) (w : World) (hB : B ≤ w.heap.size) (hw : Below w0.heap.size w0 w) (hv : OwnO w B v D) (hD : ReD w0 D P) (ho : RN w0 (.slice sp sl sc) o.A) (hl : P.length ≤ 8388608) (hP : P = []) :
    Calls Tryz.prog 91 #[v, opV o (.slice sp sl sc)] w fun e w' => PushR w0 B w w' v e (P ++ [o]) := by
  have hlen := forall2_len hD
  have ba : Below w.heap.size w (w.alloc (.cells (opC o (.slice sp sl sc)) 69)) := (Below.refl _ _).alloc (Nat.le_refl _) _
  have hl33 : D.length ≤ 33554432 := by omega
  have HT : Hid _ := fun W1 h1 => push6_tail hB hw hv hD ho W1 h1
  subst hP
  have hD0 : D = [] := List.eq_nil_of_length_eq_zero (by simpa using hlen)
  subst hD0
  obtain ⟨p, cap, e⟩ := own_slice hv
  obtain rfl : v = .slice p 0 cap := e
  obtain ⟨k, t, ⟨xx, n, u⟩, cc, A⟩ := o
  have HT' : Hid (∀ W1, Below w.heap.size w W1 → _) := HT
  simp only [opC] at ba
  have hba : ∀ q, Below w.heap.size w ((w.alloc (.cells #[.int .i64 k, .string t, .int .i64 xx, .int .i64 n, .string u, .int .i64 cc, .slice sp sl sc] 69)).drewN q) := fun q => below_drewN ba q
  have HBA : Hid (∀ q, Below w.heap.size w ((w.alloc (.cells #[.int .i64 k, .string t, .int .i64 xx, .int .i64 n, .string u, .int .i64 cc, .slice sp sl sc] 69)).drewN q)) := hba
  have HO2 : Hid (∀ q, OpAt (((w.alloc (.cells #[.int .i64 k, .string t, .int .i64 xx, .int .i64 n, .string u, .int .i64 cc, .slice sp sl sc] 69)).drewN q).alloc (.cells #[.int .i64 k, .string t, .int .i64 xx, .int .i64 n, .string u, .int .i64 cc, .slice sp sl sc] 69)) (w.heap.size + 1) 0 (k, t, (xx, n, u), cc, sp, sl, sc)) := fun q => by
    have h := (HT'.out _ (HBA.out q)).2.1
    have e : ((w.alloc (.cells #[.int .i64 k, .string t, .int .i64 xx, .int .i64 n, .string u, .int .i64 cc, .slice sp sl sc] 69)).drewN q).heap.size = w.heap.size + 1 := by show (w.alloc _).heap.size = _; simp
    rw [e] at h
    exact h
  clear hv hD ho hlen ba hw hB HT hl hba
  go_enter Tryz.func91, Tryz.ntmps91
  go_wp2
  go_quiet (fail)
  go_wp2_with (at_builtin; refine wpList_append_ops rfl (.tmp 38) (.tmp 40) rfl B (.slice p 0 cap) [] rfl (HT'.out _ (HBA.out _)).1 _ 1 _ rfl (HO2.out _) hl33 (HT'.out _ (HBA.out _)).2.2.1 ?_; intro v8 w8 own8 gr8 hat8; have HQ : Hid (PushR w0 B w w8 (.slice p 0 cap) (.returned v8) ([] ++ [_])) := (HT'.out _ (HBA.out _)).2.2.2 v8 w8 own8 gr8 hat8; clear own8 gr8 hat8 HT' HBA HO2)
  go_ret
  exact HQ.out
set_option maxHeartbeats 4000000 in
set_option maxRecDepth 100000 in
theorem push6_kind {w0 : World} {B : Nat} (v : Value) (D : List OV) (P : List Op5) (o : Op5) (sp : Option Addr) (sl sc : Nat) (w : World) (hB : B ≤ w.heap.size) (hw : Below w0.heap.size w0 w) (hv : OwnO w B v D) (hD : ReD w0 D P) (ho : RN w0 (.slice sp sl sc) o.A) (hl : P.length ≤ 8388608) (F : List Op5) (x : Op5) (hP : P = F ++ [x]) (hx : x.k ≠ o.k ∨ o.k = 2) :
    Calls Tryz.prog 91 #[v, opV o (.slice sp sl sc)] w fun e w' => PushR w0 B w w' v e (P ++ [o]) := by
  have hlen := forall2_len hD
  have ba : Below w.heap.size w (w.alloc (.cells (opC o (.slice sp sl sc)) 69)) := (Below.refl _ _).alloc (Nat.le_refl _) _
  have hl33 : D.length ≤ 33554432 := by omega
  have HT : Hid _ := fun W1 h1 => push6_tail hB hw hv hD ho W1 h1
  subst hP
  obtain ⟨FD, d, rfl, hFD, hxd⟩ : ∃ FD d, D = FD ++ [d] ∧ ReD w0 FD F ∧ ((d.1 = x.k ∧ d.2.1 = x.t ∧ d.2.2.1 = x.v ∧ d.2.2.2.1 = x.c) ∧ RN w0 (slV d.2.2.2.2) x.A) := by
    rcases List.eq_nil_or_concat D with rfl | ⟨FD, d, rfl⟩
    · have := forall2_len hD; simp at this
    · rw [List.concat_eq_append] at hD ⊢
      have hl' : FD.length = F.length := by have := forall2_len hD; simpa using this
      obtain ⟨h1, h2⟩ := forall2_unappend hl' hD
      cases h2 with
      | cons a _ => exact ⟨FD, d, rfl, h1, ⟨a.1, a.2.1, a.2.2.1, a.2.2.2.1⟩, a.2.2.2.2⟩
  obtain ⟨⟨f1, f2, f3, f4⟩, hrx⟩ := hxd
  have hFl := forall2_len hFD
  obtain ⟨g, cap, rfl⟩ : ∃ g cap, v = .slice (some ⟨g, 0, none⟩) (FD.length + 1) cap := by
    rcases hv.2 with ⟨_, h0⟩ | ⟨g, cap, cur, e, _⟩
    · simp at h0
    · exact ⟨g, cap, by rw [e]; simp⟩
  have hv2 : w.ownsRow B 69 7 (.slice (some ⟨g, 0, none⟩) (FD.length + 1) cap) (FD.length + 1) (cellsO (FD ++ [d])) := by
    have h := hv
    unfold OwnO at h
    rw [show (FD ++ [d]).length = FD.length + 1 by simp] at h
    exact h
  have hat := own_opAt hv2 FD.length d (by simp)
  rw [Nat.zero_add] at hat
  obtain ⟨m, hm⟩ : ∃ m, FD.length = m := ⟨_, rfl⟩
  have c0 := hat.c0
  rw [f1] at c0
  rw [hm] at c0 HT ⊢
  obtain ⟨xk, hxk⟩ : ∃ z, x.k = z := ⟨_, rfl⟩
  rw [hxk] at c0 hx
  obtain ⟨k, t, ⟨xx, n, u⟩, cc, A⟩ := o
  have HT' : Hid (∀ W1, Below w.heap.size w W1 → _) := HT
  simp only [opC] at ba hx
  have c0' : (w.alloc (.cells #[.int .i64 k, .string t, .int .i64 xx, .int .i64 n, .string u, .int .i64 cc, .slice sp sl sc] 69)).cell? ⟨g, m * 7, none⟩ = some (.int .i64 xk) := (ba.cell (lt_of_cell c0)).trans c0
  have hgw : g < w.heap.size := lt_of_cell c0
  have hne : ¬ g = w.heap.size := by omega
  have HBA : Hid (∀ q, Below w.heap.size w ((w.alloc (.cells #[.int .i64 k, .string t, .int .i64 xx, .int .i64 n, .string u, .int .i64 cc, .slice sp sl sc] 69)).drewN q)) := fun q => below_drewN ba q
  have HO2 : Hid (∀ q, OpAt (((w.alloc (.cells #[.int .i64 k, .string t, .int .i64 xx, .int .i64 n, .string u, .int .i64 cc, .slice sp sl sc] 69)).drewN q).alloc (.cells #[.int .i64 k, .string t, .int .i64 xx, .int .i64 n, .string u, .int .i64 cc, .slice sp sl sc] 69)) (w.heap.size + 1) 0 (k, t, (xx, n, u), cc, sp, sl, sc)) := fun q => by
    have h := (HT'.out _ (HBA.out q)).2.1
    have e : ((w.alloc (.cells #[.int .i64 k, .string t, .int .i64 xx, .int .i64 n, .string u, .int .i64 cc, .slice sp sl sc] 69)).drewN q).heap.size = w.heap.size + 1 := by show (w.alloc _).heap.size = _; simp
    rw [e] at h
    exact h
  have hz : (((m : Int) + 1) == 0) = false := by rw [beq_eq_false_iff_ne]; omega
  have hd1 : ((m : Int) + 1) - 1 = (m : Int) := by omega
  have hmz : (0 : Int) ≤ (m : Int) := by omega
  have hml : m ≤ 8388608 := by simp at hl; omega
  have hmlt : (m : Int) < (m : Int) + 1 := by omega
  clear hv hD ho hlen ba hw hB HT hl hv2 hat hFD hFl f1 f2 f3 f4 hrx hm hxk c0
  by_cases hk : xk = k
  · obtain rfl : k = 2 := hx.resolve_left (fun h => h hk)
    subst hk
    go_enter Tryz.func91, Tryz.ntmps91
    go_wp2
    go_quiet (fail)
    go_wp2_with (at_builtin; refine wpList_append_ops rfl (.tmp 38) (.tmp 40) rfl B _ (FD ++ [d]) rfl (HT'.out _ (HBA.out _)).1 _ 1 _ rfl (HO2.out _) hl33 (HT'.out _ (HBA.out _)).2.2.1 ?_; intro v8 w8 own8 gr8 hat8; have HQ := Hid.mk' ((HT'.out _ (HBA.out _)).2.2.2 v8 w8 own8 gr8 hat8); clear own8 gr8 hat8 HT' HBA HO2)
    go_ret
    exact HQ.out
  · have hkb : (xk != k) = true := by simpa using hk
    clear hx hk
    go_enter Tryz.func91, Tryz.ntmps91
    go_wp2
    go_quiet (fail)
    go_wp2_with (at_builtin; refine wpList_append_ops rfl (.tmp 38) (.tmp 40) rfl B _ (FD ++ [d]) rfl (HT'.out _ (HBA.out _)).1 _ 1 _ rfl (HO2.out _) hl33 (HT'.out _ (HBA.out _)).2.2.1 ?_; intro v8 w8 own8 gr8 hat8; have HQ := Hid.mk' ((HT'.out _ (HBA.out _)).2.2.2 v8 w8 own8 gr8 hat8); clear own8 gr8 hat8 HT' HBA HO2)
    go_ret
    exact HQ.out
set_option maxHeartbeats 4000000 in
set_option maxRecDepth 100000 in
theorem push6_same {w0 : World} {B : Nat} (v : Value) (D : List OV) (P : List Op5) (o : Op5) (sp : Option Addr) (sl sc : Nat) (w : World) (hB : B ≤ w.heap.size) (hw : Below w0.heap.size w0 w) (hv : OwnO w B v D) (hD : ReD w0 D P) (ho : RN w0 (.slice sp sl sc) o.A) (hl : P.length ≤ 8388608) (F : List Op5) (x : Op5) (hP : P = F ++ [x]) (hx : x.k = o.k) (h2 : o.k ≠ 2) (hn1 : x.A.length ≤ 2097152) (hn2 : o.A.length ≤ 2097152) (hsz : x.t.size + o.t.size ≤ 16777216) (hcc : 0 ≤ x.c ∧ 0 ≤ o.c ∧ x.c + o.c ≤ 4398046511104) :
    Calls Tryz.prog 91 #[v, opV o (.slice sp sl sc)] w fun e w' => PushR w0 B w w' v e (if x.A = o.A then F ++ [jnO x o] else P ++ [o]) := by
  have hlen := forall2_len hD
  have ba : Below w.heap.size w (w.alloc (.cells (opC o (.slice sp sl sc)) 69)) := (Below.refl _ _).alloc (Nat.le_refl _) _
  have hl33 : D.length ≤ 33554432 := by omega
  have HT : Hid _ := fun W1 h1 => push6_tail hB hw hv hD ho W1 h1
  subst hP
  obtain ⟨FD, d, rfl, hFD, hxd⟩ : ∃ FD d, D = FD ++ [d] ∧ ReD w0 FD F ∧ ((d.1 = x.k ∧ d.2.1 = x.t ∧ d.2.2.1 = x.v ∧ d.2.2.2.1 = x.c) ∧ RN w0 (slV d.2.2.2.2) x.A) := by
    rcases List.eq_nil_or_concat D with rfl | ⟨FD, d, rfl⟩
    · have := forall2_len hD; simp at this
    · rw [List.concat_eq_append] at hD ⊢
      have hl' : FD.length = F.length := by have := forall2_len hD; simpa using this
      obtain ⟨h1, h2⟩ := forall2_unappend hl' hD
      cases h2 with
      | cons a _ => exact ⟨FD, d, rfl, h1, ⟨a.1, a.2.1, a.2.2.1, a.2.2.2.1⟩, a.2.2.2.2⟩
  obtain ⟨⟨f1, f2, f3, f4⟩, hrx⟩ := hxd
  have hFl := forall2_len hFD
  obtain ⟨g, cap, rfl⟩ : ∃ g cap, v = .slice (some ⟨g, 0, none⟩) (FD.length + 1) cap := by
    rcases hv.2 with ⟨_, h0⟩ | ⟨g, cap, cur, e, _⟩
    · simp at h0
    · exact ⟨g, cap, by rw [e]; simp⟩
  have hv2 : w.ownsRow B 69 7 (.slice (some ⟨g, 0, none⟩) (FD.length + 1) cap) (FD.length + 1) (cellsO (FD ++ [d])) := by
    have h := hv
    unfold OwnO at h
    rw [show (FD ++ [d]).length = FD.length + 1 by simp] at h
    exact h
  have hat := own_opAt hv2 FD.length d (by simp)
  rw [Nat.zero_add] at hat
  obtain ⟨m, hm⟩ : ∃ m, FD.length = m := ⟨_, rfl⟩
  have CS : Hid (∀ W, Below w.heap.size w W → Calls Tryz.prog 45 #[slV d.2.2.2.2, .slice sp sl sc] W fun r w' => r = .returned (.bool (decide (x.A = o.A))) ∧ Below W.heap.size W w') := fun W hW => refSame_any _ _ x.A o.A W ((hrx.below hw).below hW).row ((ho.below hw).below hW).row (by omega) (by omega)
  have HJ : Hid (x.A = o.A → ∀ W, Below w.heap.size w W → PushR w0 B w ((W.setCell ⟨g, m * 7 + 1, none⟩ (.string (x.t ++ o.t))).setCell ⟨g, m * 7 + 5, none⟩ (.int .i64 (x.c + o.c))).drew.drew (.slice (some ⟨g, 0, none⟩) (FD.length + 1) cap) (.returned (.slice (some ⟨g, 0, none⟩) (FD.length + 1) cap)) (F ++ [jnO x o]) ∧ W.frozen? ⟨g, m * 7 + 1, none⟩ = false ∧ W.frozen? ⟨g, m * 7 + 5, none⟩ = false) := fun hA W hW => by
    have hvW : OwnO W B (.slice (some ⟨g, 0, none⟩) (FD.length + 1) cap) (FD ++ [d]) := owns_below hv hW
    have hj := own_joinO hvW (x.t ++ o.t) (x.c + o.c)
    rw [hm] at hj
    obtain ⟨_, cur, hcur⟩ := owns_block hvW g rfl
    refine ⟨⟨.slice (some ⟨g, 0, none⟩) (FD.length + 1) cap, FD ++ [(d.1, x.t ++ o.t, d.2.2.1, x.c + o.c, d.2.2.2.2)], rfl, ?_, forall2_append hFD (.cons ⟨f1, rfl, f3, rfl, hrx⟩ .nil), ?_, Or.inl rfl⟩, frozen_of_heap hcur _, frozen_of_heap hcur _⟩
    · rw [hm]; exact hj
    · exact (((Row1.of_below hW).setCell rfl _ _).setCell rfl _ _).drew.drew
  have c0 := hat.c0
  have c1 := hat.c1
  have c5 := hat.c5
  have c6 := hat.c6
  rw [f1, hx] at c0
  rw [f2] at c1
  rw [f4] at c5
  rw [hm] at c0 c1 c5 c6 HT HJ ⊢
  obtain ⟨xt, hxt⟩ : ∃ z, x.t = z := ⟨_, rfl⟩
  obtain ⟨xc, hxc⟩ : ∃ z, x.c = z := ⟨_, rfl⟩
  rw [hxt] at c1 HJ hsz
  rw [hxc] at c5 HJ hcc
  obtain ⟨⟨xp, xl, xcap⟩, hxs⟩ : ∃ z, d.2.2.2.2 = z := ⟨_, rfl⟩
  rw [hxs] at c6 CS
  simp only [slV] at c6 CS
  obtain ⟨q, hq⟩ : ∃ q, decide (x.A = o.A) = q := ⟨_, rfl⟩
  rw [hq] at CS
  have HQ : Hid (decide (x.A = o.A) = q) := hq
  have hgw : g < w.heap.size := lt_of_cell c0
  obtain ⟨k, t, ⟨xx, n, u⟩, cc, A⟩ := o
  have HT' : Hid (∀ W1, Below w.heap.size w W1 → _) := HT
  simp only [opC] at ba
  simp only at hcc hsz h2 c0 HJ HQ ⊢
  obtain ⟨hc1, hc2, hc3⟩ := hcc
  have hz : (((m : Int) + 1) == 0) = false := by rw [beq_eq_false_iff_ne]; omega
  have hd1 : ((m : Int) + 1) - 1 = (m : Int) := by omega
  have hmz : (0 : Int) ≤ (m : Int) := by omega
  have hk2 : (k == 2) = false := by simpa using h2
  have hw1 : IntKind.i64.wrap (m : Int) = (m : Int) := IntWalk.i64_in _ (by simp at hl; omega)
  have hw2 : IntKind.i64.wrap ((m : Int) + 1 - 1) = (m : Int) := by rw [hd1]; exact hw1
  have hml : m ≤ 8388608 := by simp at hl; omega
  have hmlt : (m : Int) < (m : Int) + 1 := by omega
  obtain ⟨W1, hW1⟩ : ∃ W, W = w.alloc (.cells #[.int .i64 k, .string t, .int .i64 xx, .int .i64 n, .string u, .int .i64 cc, .slice sp sl sc] 69) := ⟨_, rfl⟩
  rw [← hW1] at ba
  have d0 : W1.cell? ⟨w.heap.size, 0, none⟩ = some (.int .i64 k) := by rw [hW1]; simp
  have d1 : W1.cell? ⟨w.heap.size, 1, none⟩ = some (.string t) := by rw [hW1]; simp
  have d2 : W1.cell? ⟨w.heap.size, 2, none⟩ = some (.int .i64 xx) := by rw [hW1]; simp
  have d3 : W1.cell? ⟨w.heap.size, 3, none⟩ = some (.int .i64 n) := by rw [hW1]; simp
  have d4 : W1.cell? ⟨w.heap.size, 4, none⟩ = some (.string u) := by rw [hW1]; simp
  have d5 : W1.cell? ⟨w.heap.size, 5, none⟩ = some (.int .i64 cc) := by rw [hW1]; simp
  have d6 : W1.cell? ⟨w.heap.size, 6, none⟩ = some (.slice sp sl sc) := by rw [hW1]; simp
  have e0 : W1.cell? ⟨g, m * 7, none⟩ = some (.int .i64 k) := (ba.cell (lt_of_cell c0)).trans c0
  have e1 : W1.cell? ⟨g, m * 7 + 1, none⟩ = some (.string xt) := (ba.cell (lt_of_cell c1)).trans c1
  have e5 : W1.cell? ⟨g, m * 7 + 5, none⟩ = some (.int .i64 xc) := (ba.cell (lt_of_cell c5)).trans c5
  have e6 : W1.cell? ⟨g, m * 7 + 6, none⟩ = some (.slice xp xl xcap) := (ba.cell (lt_of_cell c6)).trans c6
  have HU : Hid (∀ w', Below W1.drew.heap.size W1.drew w' → (w'.cell? ⟨g, m * 7, none⟩ = some (.int .i64 k) ∧ w'.cell? ⟨g, m * 7 + 1, none⟩ = some (.string xt) ∧ w'.cell? ⟨g, m * 7 + 5, none⟩ = some (.int .i64 xc) ∧ w'.cell? ⟨g, m * 7 + 6, none⟩ = some (.slice xp xl xcap)) ∧ (w'.cell? ⟨w.heap.size, 0, none⟩ = some (.int .i64 k) ∧ w'.cell? ⟨w.heap.size, 1, none⟩ = some (.string t) ∧ w'.cell? ⟨w.heap.size, 2, none⟩ = some (.int .i64 xx) ∧ w'.cell? ⟨w.heap.size, 3, none⟩ = some (.int .i64 n) ∧ w'.cell? ⟨w.heap.size, 4, none⟩ = some (.string u) ∧ w'.cell? ⟨w.heap.size, 5, none⟩ = some (.int .i64 cc) ∧ w'.cell? ⟨w.heap.size, 6, none⟩ = some (.slice sp sl sc))) := fun w' hb => ⟨⟨(hb.cell (lt_of_cell (w := W1.drew) e0)).trans e0, (hb.cell (lt_of_cell (w := W1.drew) e1)).trans e1, (hb.cell (lt_of_cell (w := W1.drew) e5)).trans e5, (hb.cell (lt_of_cell (w := W1.drew) e6)).trans e6⟩, (hb.cell (lt_of_cell (w := W1.drew) d0)).trans d0, (hb.cell (lt_of_cell (w := W1.drew) d1)).trans d1, (hb.cell (lt_of_cell (w := W1.drew) d2)).trans d2, (hb.cell (lt_of_cell (w := W1.drew) d3)).trans d3, (hb.cell (lt_of_cell (w := W1.drew) d4)).trans d4, (hb.cell (lt_of_cell (w := W1.drew) d5)).trans d5, (hb.cell (lt_of_cell (w := W1.drew) d6)).trans d6⟩
  have cs := CS.out W1.drew ba.drew
  have hne : ¬ g = w.heap.size := by omega
  have hne' : ¬ w.heap.size = g := by omega
  have hbs : w.heap.size ≤ W1.drew.heap.size := ba.size
  clear hv hD ho hlen hw hB HT hl hv2 hat hFD hFl f1 f2 f3 f4 hrx hm hxt hxc hxs hq CS c0 c1 c5 c6 h2 hx hn1 hn2
  go_enter Tryz.func91, Tryz.ntmps91
  go_upto_region 2 with fail
  rw [← hW1]
  clear hW1
  go_region_held3 (fun w' => ((w'.cell? ⟨g, m * 7, none⟩ = some (.int .i64 k) ∧ w'.cell? ⟨g, m * 7 + 1, none⟩ = some (.string xt) ∧ w'.cell? ⟨g, m * 7 + 5, none⟩ = some (.int .i64 xc) ∧ w'.cell? ⟨g, m * 7 + 6, none⟩ = some (.slice xp xl xcap)) ∧ (w'.cell? ⟨w.heap.size, 0, none⟩ = some (.int .i64 k) ∧ w'.cell? ⟨w.heap.size, 1, none⟩ = some (.string t) ∧ w'.cell? ⟨w.heap.size, 2, none⟩ = some (.int .i64 xx) ∧ w'.cell? ⟨w.heap.size, 3, none⟩ = some (.int .i64 n) ∧ w'.cell? ⟨w.heap.size, 4, none⟩ = some (.string u) ∧ w'.cell? ⟨w.heap.size, 5, none⟩ = some (.int .i64 cc) ∧ w'.cell? ⟨w.heap.size, 6, none⟩ = some (.slice sp sl sc))) ∧ Below w.heap.size w w')
    (exact ⟨by first | (with_reducible assumption) | (simp [*]; done), by first | (with_reducible assumption) | exact ba.drew⟩)
    (first | (go_at_call 45; refine cs.mono ?_; rintro r wD ⟨rfl, bD⟩; have jD : Below w.heap.size w wD := ba.drew.trans (bD.mono hbs); have mmD := HU.out _ bD))
  clear cs HU bD d0 d1 d2 d3 d4 d5 d6 e0 e1 e5 e6 ba
  obtain ⟨⟨e0, e1, e5, e6⟩, d0, d1, d2, d3, d4, d5, d6⟩ := mmD
  cases q with
  | true =>
    have hAA := of_decide_eq_true HQ.out
    obtain ⟨y1, y2, y3⟩ := HJ.out hAA wD jD
    have HY : Hid _ := y1
    have HAA := Hid.mk' hAA
    clear HJ HT' HQ hAA y1
    have e1d : wD.drew.cell? ⟨g, m * 7 + 1, none⟩ = some (.string xt) := e1
    go_wp2
    go_region
    all_goals go_wp2
    all_goals go_region
    all_goals go_wp2
    all_goals (go_ret; first | exact HY.out | (rw [if_pos HAA.out]; exact HY.out))
  | false =>
    have hAA := of_decide_eq_false HQ.out
    have HAA := Hid.mk' hAA
    have HBA : Hid (Below w.heap.size w wD) := jD
    clear HJ HQ hAA e0 e1 e5 e6 jD
    go_wp2_with (at_builtin; refine wpList_append_ops rfl (.tmp 38) (.tmp 40) rfl B _ (FD ++ [d]) rfl (HT'.out _ HBA.out).1 _ 1 _ rfl (HT'.out _ HBA.out).2.1 hl33 (HT'.out _ HBA.out).2.2.1 ?_; intro v8 w8 own8 gr8 hat8; have HQ := Hid.mk' ((HT'.out _ HBA.out).2.2.2 v8 w8 own8 gr8 hat8); clear own8 gr8 hat8 HT' HBA)
    go_ret
    have hq := HQ.out
    rw [List.append_assoc] at hq
    exact hq
end Go.Proofs.YtalfdjglbbmjcabGreatDoor

/- The document's deltas: Canonical: the canonical list of operations. -/
namespace Go.Proofs.YtalfdjglbbmjcabGreatDoor
open Go Go.RowKit Go.Lib
set_option linter.unusedVariables false

set_option maxHeartbeats 1000000 in
theorem plain6_any (o : Op5) (p : Option Addr) (l c : Nat) (w : World) (hl : l = o.A.length) : Calls Tryz.prog 92 #[opV o (.slice p l c)] w fun r w' => r = .returned (.bool (plainR o)) ∧ Below w.heap.size w w' := by
  have hp : plainR o = (o.k == 3 && decide (l = 0)) := by
    unfold plainR
    rw [hl]
    cases o.A <;> simp
  rw [hp]
  obtain ⟨k, t, ⟨x, n, u⟩, cc, A⟩ := o
  simp only
  clear hp hl
  by_cases k3 : k = 3
  · subst k3
    have hz : ((l : Int) == 0) = decide (l = 0) := by rw [Bool.eq_iff_iff]; simp
    go_enter Tryz.func92, Tryz.ntmps92
    go_wp2
    go_ret
    exact ⟨by simp, by go_grown⟩
  · have e3 : (k == 3) = false := by simpa using k3
    rw [e3]
    go_enter Tryz.func92, Tryz.ntmps92
    go_wp2
    go_ret
    exact ⟨rfl, by go_grown⟩
/-- push, whatever comes. -/
theorem push6_any {w0 : World} {B : Nat} (v : Value) (D : List OV) (P : List Op5) (o : Op5) (sp : Option Addr) (sl sc : Nat) (w : World) (hB : B ≤ w.heap.size) (hw : Below w0.heap.size w0 w) (hv : OwnO w B v D) (hD : ReD w0 D P) (ho : RN w0 (.slice sp sl sc) o.A) (hl : P.length ≤ 4194304) (hP : ∀ x ∈ P, Wel x ∧ x.A.length ≤ 2097152 ∧ x.t.size ≤ 8388608 ∧ x.c ≤ 2199023255552) (how : Wel o) (hn2 : o.A.length ≤ 2097152) (hot : o.t.size ≤ 8388608) (hoc : o.c ≤ 2199023255552) :
    Calls Tryz.prog 91 #[v, opV o (.slice sp sl sc)] w fun e w' => PushR w0 B w w' v e (pushL P o) := by
  rcases List.eq_nil_or_concat P with rfl | ⟨F, x, rfl⟩
  · exact push6_nil v D [] o sp sl sc w hB hw hv hD ho (by simp) rfl
  · rw [List.concat_eq_append] at hD hl hP ⊢
    obtain ⟨hx1, hx2, hx3, hx4⟩ := hP x (List.mem_append_right _ (List.mem_singleton.2 rfl))
    by_cases h1 : x.k ≠ o.k ∨ o.k = 2
    · rw [push_apart (by rcases h1 with h | h; exact Or.inl h; exact Or.inr (Or.inl h))]
      exact push6_kind v D _ o sp sl sc w hB hw hv hD ho (by omega) F x rfl h1
    · have hk : x.k = o.k := Decidable.byContradiction fun h => h1 (Or.inl h)
      have h2 : o.k ≠ 2 := fun h => h1 (Or.inr h)
      have hcx : 0 ≤ x.c := by
        rcases hx1.kinds with h | h | h | h
        · rw [(hx1.resolve_right (by rintro (⟨a, _⟩ | ⟨a, _⟩) <;> omega)).1.count]; omega
        · omega
        · have := hx1.count (Or.inl h); omega
        · have := hx1.count (Or.inr h); omega
      have hco : 0 ≤ o.c := by
        rcases how.kinds with h | h | h | h
        · rw [(how.resolve_right (by rintro (⟨a, _⟩ | ⟨a, _⟩) <;> omega)).1.count]; omega
        · omega
        · have := how.count (Or.inl h); omega
        · have := how.count (Or.inr h); omega
      have h := push6_same v D _ o sp sl sc w hB hw hv hD ho (by omega) F x rfl hk h2 hx2 hn2 (by omega) ⟨hcx, hco, by omega⟩
      by_cases hA : x.A = o.A
      · rw [if_pos hA] at h
        rw [push_join (by rintro (e | e | e); exact e hk; exact h2 e; exact e hA)]
        exact h
      · rw [if_neg hA] at h
        rw [push_apart (Or.inr (Or.inr hA))]
        exact h
end Go.Proofs.YtalfdjglbbmjcabGreatDoor
