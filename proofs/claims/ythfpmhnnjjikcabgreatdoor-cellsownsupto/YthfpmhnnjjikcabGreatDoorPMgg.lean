/- vellumlaw09.large, vellumlaw09.lives. What writing over a list leaves of deltas; build.Same. Of all lists of cells vellumlaw09.CellsBack answers true. A piece cut in two. A piece cut in two; a piece taken. What a Walker takes. Next and Rest of a Walker. measure: take: the next cells of a Walker, as pieces. A delta of a list made canonical. measure: Slice. cells.At. The document's answer: Document and List of any operations. vellumlaw09.told: what cells.Each tells. Of all lists of cells vellumlaw09.CellsOwns answers true. -/
import Derived.Test.YthfpmhnnjjikcabGreatDoorPMgc
import Derived.Test.YthfpmhnnjjikcabGreatDoorPMgf
import Derived.Test.YthfpmhnnjjikcabGreatDoorPMgd
import Derived.Test.YthfpmhnnjjikcabGreatDoorPCf
import Derived.Test.YthfpmhnnjjikcabGreatDoorPCp
import Derived.BigRegion
import Derived.Deep.RegionHeld3
import Derived.Deep.DeepCutAuto
import Derived.Test.YthfpmhnnjjikcabGreatDoorPMge
import Derived.Test.YthfpmhnnjjikcabGreatDoorPMga
import Derived.Deep.RegionWith
import Derived.Test.YthfpmhnnjjikcabGreatDoorPSw
import Derived.Test.YthfpmhnnjjikcabGreatDoorPEr

/- vellumlaw09.large, vellumlaw09.lives. -/
namespace Go.Proofs.YthfpmhnnjjikcabGreatDoor
open Go Go.RowKit Go.Lib
set_option linter.unusedVariables false
/-- How large a list of cells is. -/
def larC (E : List C5) : Int := (E.map fun e => 1 + (e.2.1.size : Int) + 10 * e.2.2.2.length).sum
theorem larC_append (E F : List C5) : larC (E ++ F) = larC E + larC F := by unfold larC; rw [List.map_append, List.sum_append]
theorem larC_one (e : C5) : larC [e] = 1 + (e.2.1.size : Int) + 10 * e.2.2.2.length := by simp [larC]
theorem larC_cons (e : C5) (r : List C5) : larC (e :: r) = 1 + (e.2.1.size : Int) + 10 * e.2.2.2.length + larC r := by simp [larC]
theorem larC_len : ∀ (E : List C5), (E.length : Int) ≤ larC E
  | [] => by simp [larC]
  | e :: r => by
    have := larC_len r
    rw [larC_cons, List.length_cons]
    omega
theorem larC_mem {e : C5} : ∀ {E : List C5}, e ∈ E → 1 + (e.2.1.size : Int) + 10 * e.2.2.2.length ≤ larC E
  | x :: r, h => by
    have h0 := larC_len r
    rw [larC_cons]
    rcases List.mem_cons.1 h with rfl | h
    · omega
    · have := larC_mem h; omega
theorem opOf_t (e : C5) : (opOf e).t.size ≤ 4 + e.2.1.size := by
  obtain ⟨k, t, v, A⟩ := e
  unfold opOf
  split
  · show t.size ≤ 4 + t.size; omega
  · have := enc_le4 ((Int.toNat k : Nat) : Int)
    show (⟨(enc k.toNat).toArray⟩ : ByteArray).size ≤ _
    have e2 : (⟨(enc k.toNat).toArray⟩ : ByteArray).size = (enc k.toNat).length := by simp [ByteArray.size]
    rw [e2]
    unfold enc
    omega
theorem larC_txt : ∀ (E : List C5), (txtS (E.map opOf) : Int) ≤ 4 * larC E
  | [] => by simp [larC, txtS]
  | e :: r => by
    have h := larC_txt r
    have h2 := opOf_t e
    rw [List.map_cons, txtS_cons, larC_cons]
    omega
theorem lightC {E : List C5} (h : decide (20000 < larC E) = false) : txtS (E.map opOf) ≤ 80000 ∧ E.length ≤ 20000 ∧ ∀ e ∈ E, e.2.2.2.length ≤ 2000 ∧ e.2.1.size ≤ 20000 := by
  have h0 := of_decide_eq_false h
  have h1 := larC_txt E
  have h2 := larC_len E
  refine ⟨by omega, by omega, fun e he => ?_⟩
  have := larC_mem he
  omega
set_option maxHeartbeats 2000000 in
set_option maxRecDepth 100000 in
theorem large9_any (v : Value) (D0 : List CV) (E : List C5) (w : World) (hrow : RowC w v D0) (hre : Are w D0 E) (hF : ∀ e ∈ E, e.2.1.size ≤ 1048576 ∧ e.2.2.2.length ≤ 1048576) (hl : E.length ≤ 1048576) :
    Calls Tryz.prog 9 #[v] w fun r w' => r = .returned (.bool (decide (20000 < larC E))) ∧ Below w.heap.size w w' := by
  have hDE := forall2_len hre
  obtain ⟨n, hn⟩ : ∃ n, D0.length = n := ⟨_, rfl⟩
  obtain ⟨p, cap, rfl, hcap, hnz, hc⟩ := hrow
  have HC : Hid (D0 ≠ [] → ∃ b off, p = some ⟨b, off, none⟩ ∧ InC w b off D0) := hc
  have HN : Hid (D0.length = n ∧ E.length = n) := ⟨hn, by rw [← hDE, hn]⟩
  have hl : n ≤ 1048576 := by rw [← hn, hDE]; exact hl
  have HF : Hid (∀ e ∈ E, e.2.1.size ≤ 1048576 ∧ e.2.2.2.length ≤ 1048576) := hF
  have HE : Hid (∀ (k : Nat) (d : CV), D0[k]? = some d → ∃ e : C5, E[k]? = some e ∧ d.2.1 = e.2.1 ∧ d.2.2.2.2.1 = e.2.2.2.length) := fun k d h => by
    obtain ⟨y, hy, r⟩ := forall2_get hre k d h
    obtain ⟨q, c, e1, _⟩ := r.2.2.2.row.val
    refine ⟨y, hy, r.2.1, ?_⟩
    simp only [slV, Value.slice.injEq] at e1
    exact e1.2.1
  rw [hn] at hcap ⊢
  clear hc hn hDE hre hnz hF
  go_enter Tryz.func9, Tryz.ntmps9
  go_wp2
  go_loopw [3, 8] (fun s i wr => ∃ (k : Nat) (z : Int), k ≤ n ∧ i = .int .i64 k ∧ s = .int .i64 z ∧ 0 ≤ z ∧ z ≤ 20000000 * k ∧ Hid (larC (E.take k) = z) ∧ Below w.heap.size w wr) (fun _ i _ => n - (RowKit.intOf i).toNat)
  case atStart => exact ⟨0, 0, Nat.zero_le _, rfl, rfl, by omega, by omega, by show larC (E.take 0) = 0; simp [larC], Below.refl _ _⟩
  case round =>
    obtain ⟨k, z, hk, rfl, rfl, hz0, hz1, HZ, hbw⟩ := hrel
    by_cases hlt : k < n
    · have hltI : (k : Int) < n := by omega
      obtain ⟨d, hd⟩ : ∃ d, D0[k]? = some d := ⟨_, List.getElem?_eq_getElem (by rw [HN.out.1]; exact hlt)⟩
      obtain ⟨e, he, het, hel⟩ := HE.out k d hd
      obtain ⟨b, off, rfl, hin⟩ := HC.out (by intro e; rw [e] at hd; simp at hd)
      obtain ⟨x0, x1, x2, x3, x4, x5⟩ := cellsC_get D0 k d hd
      have c0 := (hin.below hbw) _ _ x0
      have c1 := (hin.below hbw) _ _ x1
      have c2 := (hin.below hbw) _ _ x2
      have c3 := (hin.below hbw) _ _ x3
      have c4 := (hin.below hbw) _ _ x4
      have c5 := (hin.below hbw) _ _ x5
      simp only [← Nat.add_assoc] at c0 c1 c2 c3 c4 c5
      have hfe := HF.out e (List.mem_of_getElem? he)
      have hT1 := hfe.1
      have hT2 := hfe.2
      have HS : Hid (larC (E.take (k + 1)) = z + (1 + (e.2.1.size : Int) + 10 * e.2.2.2.length)) := by
        show _ = _
        rw [List.take_add_one, he, Option.toList_some, larC_append, larC_one, HZ.out]
      clear hd he hin HZ hfe x0 x1 x2 x3 x4 x5
      obtain ⟨dk, dt, ⟨dx, dn, du⟩, ds⟩ := d
      obtain ⟨dp, dl, dcap⟩ := ds
      simp only at het hel
      rw [← het, ← hel] at HS
      rw [← het] at hT1
      rw [← hel] at hT2
      clear het hel
      simp only [slV] at c0 c1 c2 c3 c4 c5
      obtain ⟨s, hs⟩ : ∃ s : Int, (dt.size : Int) = s := ⟨_, rfl⟩
      obtain ⟨L, hL⟩ : ∃ s : Int, (dl : Int) = s := ⟨_, rfl⟩
      have hs1 : 0 ≤ s ∧ s ≤ 1048576 := by omega
      have hL1 : 0 ≤ L ∧ L ≤ 1048576 := by omega
      obtain ⟨hs1, hs2⟩ := hs1
      obtain ⟨hL1, hL2⟩ := hL1
      rw [hs, hL] at HS
      have hk2 : (k : Int) ≤ 1048576 := by omega
      go_wp2
      go_roundw
      case rel => exact ⟨k + 1, z + (1 + s + 10 * L), by omega, by go_num, rfl, by omega, by omega, HS.out, hbw.alloc hbw.size _⟩
      case measure => simp [RowKit.intOf]; omega
    · have hltI : ¬ (k : Int) < n := by omega
      have hE : E.take k = E := List.take_of_length_le (by rw [HN.out.2]; omega)
      rw [hE] at HZ
      go_wp2
      go_ret
      exact ⟨by rw [HZ.out]; rfl, hbw⟩
/-- A cell without attributes, as it lies in memory. -/
abbrev cvN (e : C5) : CV := (e.1, e.2.1, e.2.2.1, (none, 0, 0))
theorem rowC_blk {w : World} {b : Nat} {D : List CV} (h : w.heap[b]? = some (.cells (cellsC D).toArray 39 (0, 0))) : RowC w (.slice (some ⟨b, 0, none⟩) D.length D.length) D := by
  refine ⟨some ⟨b, 0, none⟩, D.length, rfl, Nat.le_refl _, fun h => (by cases h), fun _ => ⟨b, 0, rfl, fun j u hu => ?_⟩⟩
  rw [Nat.zero_add, cell_of_heap h, List.getElem?_toArray]
  exact hu
theorem areN (w : World) : ∀ (E : List C5), (∀ e ∈ E, e.2.2.2 = []) → Are w (E.map cvN) E
  | [], _ => .nil
  | e :: r, h => by
    refine .cons ⟨rfl, rfl, rfl, ?_⟩ (areN w r fun x hx => h x (List.mem_cons_of_mem _ hx))
    rw [h e (List.mem_cons_self ..)]
    exact RN.nil w
def live9 : List C5 := [(97, ⟨#[]⟩, z0, []), (98, ⟨#[]⟩, z0, []), (-1, ⟨#[105, 109, 97, 103, 101]⟩, z0, [])]
def live9o : List Op5 := [txtO ⟨#[97, 98]⟩, ⟨2, ⟨#[105, 109, 97, 103, 101]⟩, z0, 0, []⟩]
theorem live9_ok : celP live9 = (0, 0) := by kernel_rfl
theorem live9_doc : docOf live9 = live9o := by kernel_rfl
theorem live9_nil : ∀ e ∈ live9, e.2.2.2 = [] := by
  intro e he
  simp only [live9, List.mem_cons, List.not_mem_nil, or_false] at he
  rcases he with rfl | rfl | rfl <;> rfl
theorem live9_fit : ∀ e ∈ live9, FitC e := by
  intro e he
  have hA := live9_nil e he
  refine ⟨?_, ?_, fun q hq => (by rw [hA] at hq; cases hq), by rw [hA]; simp⟩
  all_goals
    simp only [live9, List.mem_cons, List.not_mem_nil, or_false] at he
    rcases he with rfl | rfl | rfl <;> decide
theorem live9o_nil : ∀ o ∈ live9o, o.A = [] := by
  intro o ho
  simp only [live9o, List.mem_cons, List.not_mem_nil, or_false] at ho
  rcases ho with rfl | rfl <;> rfl
theorem live9o_okR : OkR live9o := ⟨fun o ho => by rw [live9o_nil o ho]; simp, by decide⟩
theorem live9o_good : ∀ o ∈ live9o, opE o = 0 := by
  intro o ho
  simp only [live9o, List.mem_cons, List.not_mem_nil, or_false] at ho
  rcases ho with rfl | rfl <;> kernel_rfl
set_option maxHeartbeats 2000000 in
set_option maxRecDepth 100000 in
theorem lives9_any {I : List Nat} {a : Nat → Addr} (w : World) (hI : ∀ i ∈ IxO, i ∈ I) (hS : Std I a w) :
    Calls Tryz.prog 8 #[] w fun r w' => r = .returned (.bool true) ∧ Below w.heap.size w w' := by
  have CO : Hid (∀ W b, Below w.heap.size w W → W.heap[b]? = some (.cells (cellsC (live9.map cvN)).toArray 39 (0, 0)) → Calls Tryz.prog 10 #[.slice (some ⟨b, 0, none⟩) 3 3] W fun r w' => ∃ dv, r = .returned (.tuple #[dv, .int .i64 0, .nilIface]) ∧ (∃ q, dv = .pointer (some ⟨q, 0, none⟩)) ∧ DelV w' W.heap.size W.heap.size dv live9o ∧ Below W.heap.size W w') := fun W b hW hb => by
    refine (ofC_any _ (live9.map cvN) live9 W hI (hS.below hW) (rowC_blk hb) (areN W live9 live9_nil) live9_fit (by decide) (by decide)).mono ?_
    rintro r w' ⟨dv, h1, h2, _, h4⟩
    rw [live9_ok] at h1 h2
    rw [live9_doc] at h2
    have h5 := h2 rfl
    obtain ⟨q, pv, PL, e, _⟩ := id h5
    exact ⟨dv, h1, ⟨q, e⟩, h5, h4⟩
  have CI : Hid (∀ W b dv B1 B2, DelV W B1 B2 dv live9o → W.heap[b]? = some (.cells (cellsO (live9o.map ovN)).toArray 74 (0, 0)) → Calls Tryz.prog 19 #[dv, .slice (some ⟨b, 0, none⟩) 2 2] W fun r w' => r = .returned (.bool true) ∧ Below W.heap.size W w') := fun W b dv B1 B2 h hb => by
    have := is_any dv (.slice (some ⟨b, 0, none⟩) 2 2) live9o live9o W h live9o_good live9o_okR (re_blk hb live9o_nil) live9o_okR
    rw [decide_eq_true rfl] at this
    exact this
  clear hS hI
  go_enter Tryz.func8, Tryz.ntmps8
  have b0 := (Below.refl w.heap.size w).alloc (Nat.le_refl _) (.cells (cellsC (live9.map cvN)).toArray 39)
  go_wp2_with fail
  refine (CO.out _ _ b0 (heap_alloc_new w _)).mono ?_; rintro r w5 ⟨dv, rfl, ⟨q, rfl⟩, hd5, hb5⟩
  have b5 := b0.trans (hb5.mono b0.size)
  have HD5 : Hid (∃ B1 B2, DelV w5 B1 B2 (.pointer (some ⟨q, 0, none⟩)) live9o) := ⟨_, _, hd5⟩
  clear hb5 hd5 CO b0
  obtain ⟨B1, B2, hd7⟩ := HD5.out
  have HD : Hid (DelV w5 B1 B2 (.pointer (some ⟨q, 0, none⟩)) live9o) := hd7
  clear hd7 HD5
  go_wp2_with fail
  refine (CI.out _ _ _ B1 B2 (HD.out.below ((Below.refl _ _).alloc (Nat.le_refl _) _)) (heap_alloc_new w5 _)).mono ?_; rintro r w8 ⟨rfl, hb8⟩
  have b8 := (b5.alloc b5.size _).trans (hb8.mono (Nat.le_trans b5.size (by rw [World.size_alloc]; omega)))
  clear hb8 b5 CI HD
  go_wp2
  go_ret
  exact ⟨rfl, b8⟩
end Go.Proofs.YthfpmhnnjjikcabGreatDoor

/- What writing over a list leaves of deltas; build.Same. -/
namespace Go.Proofs.YthfpmhnnjjikcabGreatDoor
open Go Go.RowKit Go.Lib
set_option linter.unusedVariables false
theorem DelV.out {w w' : World} {lo hi B1 B2 : Nat} {v : Value} {E : List Op5} (h : DelV w B1 B2 v E) (o : Out lo hi w w') (h1 : hi ≤ B1) (h2 : hi ≤ B2) : DelV w' B1 B2 v E := by
  obtain ⟨q, pv, PL, a1, a2, a3, a4, a5⟩ := h
  refine ⟨q, pv, PL, a1, a2, (o.block q (Array.getElem?_eq_some_iff.1 a3).1 (Or.inr (by omega))).trans a3, o.own h1 a4, ?_⟩
  exact All2.imp (fun x e h => by obtain ⟨s, k1, k2⟩ := h; exact ⟨s, k1, o.own h2 k2⟩) a5
theorem FarO.out {w w' : World} {lo hi B : Nat} {v : Value} {D : List OV} (h : FarO w B v D) (o : Out lo hi w w') (h1 : hi ≤ B) : FarO w' B v D := by
  obtain ⟨p, cap, a1, a2, a3, a4⟩ := h
  exact ⟨p, cap, a1, a2, a3, fun j d hd => by
    obtain ⟨b, off, k1, k0, k2⟩ := a4 j d hd
    exact ⟨b, off, k1, k0, k2.same_block (o.block b (lt_of_cell k2.c0) (Or.inr (by omega)))⟩⟩

end Go.Proofs.YthfpmhnnjjikcabGreatDoor

/- Of all lists of cells vellumlaw09.CellsBack answers true. -/
namespace Go.Proofs.YthfpmhnnjjikcabGreatDoor
open Go Go.RowKit Go.Lib Go.Shelf
set_option linter.unusedVariables false
theorem Hid.mkh {P : Prop} (h : P) : Hid P := h
theorem goodC9 {A : List C5} (h : ∀ e ∈ A, celE e = 0) : ∀ c ∈ A, GoodC c := fun c hc => good_iff.1 (h c hc)
theorem doc_facts9 {A : List C5} (hg : ∀ e ∈ A, celE e = 0) (hF : ∀ e ∈ A, FitC e) (ht : txtS (A.map opOf) ≤ 1048576) (hl : A.length ≤ 1048576) :
    (∀ o ∈ docOf A, opE o = 0) ∧ (∀ o ∈ docOf A, FitA o) ∧ (docOf A).length ≤ 1048576 ∧ txtS (docOf A) ≤ 1048576 ∧ sumB (docOf A) = 0 ∧ sumR (docOf A) = A.length ∧ cellsL (docOf A) = A ∧ OkR (docOf A) := by
  have hc := goodC9 hg
  have ok := okE_cells hg hF (by omega) hl
  obtain ⟨k1, k2, k3⟩ := canon_ok ok
  rw [List.length_map] at k3
  have hu := doc_units hc
  have hw : ∀ o ∈ A.map opOf, Wel o := fun o ho => by
    obtain ⟨c, hc', rfl⟩ := List.mem_map.1 ho
    exact (opOf_good (hc c hc')).1
  have hs := sums_cells A hg
  have hb : sumB (docOf A) = 0 := by
    have h1 := (canon_sums hw).1
    have h2 := sums_nn hu.1
    rw [hs.1] at h1
    have : sumB (docOf A) ≤ 0 := h1
    omega
  have hr : sumR (docOf A) = A.length := by rw [sumR_units hu.1, hu.2.2.2, ← units_ops hc, ← sumR_units hw]; exact hs.2
  have e1 : (docOf A).length ≤ A.length := k3
  have e2 : txtS (docOf A) ≤ txtS (A.map opOf) := k2
  exact ⟨k1.good, k1.fit, by omega, by omega, hb, hr, (cells_doc hc).2, OkE.okR k1 (by show (docOf A).length ≤ _; omega)⟩
theorem doc_dle9 {A : List C5} (hg : ∀ e ∈ A, celE e = 0) (hF : ∀ e ∈ A, FitC e) (ht : txtS (A.map opOf) ≤ 1048576) (hl : A.length ≤ 1048576) {W : World} {B1 B2 : Nat} {dv : Value} (h : DelV W B1 B2 dv (docOf A)) : DlE W B1 B2 dv (docOf A) := by
  obtain ⟨h1, h2, h3, h4, h5, h6, _, _⟩ := doc_facts9 hg hF ht hl
  exact ⟨h, h1, h2, by omega, by omega, ⟨by rw [h5]; decide, by rw [h6]; omega⟩⟩
end Go.Proofs.YthfpmhnnjjikcabGreatDoor

/- A piece cut in two. -/
namespace Go.Proofs.YthfpmhnnjjikcabGreatDoor
open Go Go.RowKit Go.Lib
set_option linter.unusedVariables false
theorem heap_drw7 (W : World) (k : Nat) : W.drew.heap[k]? = W.heap[k]? := rfl
theorem box3 (w : World) (o : Array Value) (T : TypeId) (W : World) (hW : (((w.alloc (.cells o T)).alloc (.cells o T)).alloc (.cells o T)).drew = W) : W.heap[w.heap.size + 1]? = some (.cells o T (0, 0)) ∧ W.heap[w.heap.size + 1 + 1]? = some (.cells o T (0, 0)) ∧ Below (w.heap.size + 1) (w.alloc (.cells o T)) W := by
  subst hW
  have e1 := heap_alloc_new (w.alloc (.cells o T)) (.cells o T)
  have e2 := heap_alloc_new ((w.alloc (.cells o T)).alloc (.cells o T)) (.cells o T)
  simp only [World.size_alloc] at e1 e2
  refine ⟨?_, e2, ?_⟩
  · exact ((Below.refl ((w.alloc (.cells o T)).alloc (.cells o T)).heap.size _).alloc (Nat.le_refl _) _).block (w.heap.size + 1) (by simp) |>.trans e1
  · exact (((Below.refl (w.alloc (.cells o T)).heap.size _).alloc (Nat.le_refl _) _).alloc (by simp) _).drew.mono (by simp)
set_option maxHeartbeats 2000000 in
set_option maxRecDepth 100000 in
theorem cutText_any (p : Option Addr) (l c : Nat) (t : ByteArray) (N : Int) (A : List A2) (rs : List Nat) (m : Nat) (w : World) (hR : RN w (.slice p l c) A) (hl : A.length ≤ 2097152)
    (hv : t.data.toList = encs rs) (hs : ∀ r ∈ rs, scal r) (hm : m ≤ rs.length) (ht : t.size ≤ 8388608) (hrl : rs.length ≤ t.size) (hN : (m : Int) ≤ N) (hN2 : N ≤ 8388608) :
    Calls Tryz.prog 157 #[.agg #[.slice p l c, .string t, .int .i64 N], .int .i64 m] w fun r w' => ∃ p' c', r = .returned (.tuple #[.iface 184 (.agg #[.slice p' A.length c', .string (t.extract 0 (pos rs m)), .int .i64 m]), .iface 184 (.agg #[.slice p l c, .string (t.extract (pos rs m) t.size), .int .i64 (N - m)])]) ∧ OwnA w' w.heap.size (.slice p' A.length c') A ∧ Below w.heap.size w w' := by
  have cP := fun W => placeOf_any t rs m W hv hs hm (by omega) hrl
  have cA := fun W (hW : Below w.heap.size w W) => attributes_any (.slice p l c) A W (hR.below hW).row hR.nz hl
  have hpt : pos rs m ≤ t.size := by have := pos_le rs m; have := size_toList t; rw [hv] at this; omega
  obtain ⟨x, hx⟩ : ∃ x, pos rs m = x := ⟨_, rfl⟩
  rw [hx] at hpt
  simp only [hx] at cP ⊢
  clear hR hl hv hs hx hrl
  go_enter Tryz.func157, Tryz.ntmps157
  go_upto_region 1 with fail
  go_cut [6, 7] (fun x6 x7 wx => ∃ X Y, x6 = .pointer (some ⟨X, 0, none⟩) ∧ x7 = .pointer (some ⟨Y, 0, none⟩) ∧ X ≠ Y ∧ w.heap.size < X ∧ w.heap.size < Y ∧ wx.heap[X]? = some (.cells #[.slice p l c, .string t, .int .i64 N] 184 (0, 0)) ∧ wx.heap[Y]? = some (.cells #[.slice p l c, .string t, .int .i64 N] 184 (0, 0)) ∧ Below (w.heap.size + 1) (w.alloc (.cells #[.slice p l c, .string t, .int .i64 N] 184)) wx)
  case first =>
    go_region
    all_goals (try go_wp2)
    all_goals go_meet
    all_goals obtain ⟨h1, h2, hB⟩ := box3 w _ _ _ rfl
    · exact ⟨_, _, rfl, rfl, by omega, by omega, by omega, h1, h2, hB⟩
    · exact ⟨_, _, rfl, rfl, by omega, by omega, by omega, h2, h1, hB⟩
  case rest =>
    obtain ⟨X, Y, rfl, rfl, nXY, lX, lY, hX, hY, hB⟩ := hcut
    have hb0 : Below w.heap.size w wc := ((Below.refl _ w).alloc (Nat.le_refl _) _).trans (hB.mono (by omega))
    have k0 : wc.heap[w.heap.size]? = some (.cells #[.slice p l c, .string t, .int .i64 N] 184 (0, 0)) := (hB.block _ (by omega)).trans (heap_alloc_new w _)
    have zX := (Array.getElem?_eq_some_iff.1 hX).1
    have zY := (Array.getElem?_eq_some_iff.1 hY).1
    have d1 : wc.cell? ⟨w.heap.size, 1, none⟩ = some (.string t) := by rw [cell_of_heap k0]; rfl
    go_wp2_with fail
    refine (cP _).mono ?_; rintro r w2 ⟨rfl, hb2⟩
    have b2 := hb0.trans (hb2.mono hb0.size)
    have m0 := heap_below hb2 k0
    have mX := heap_below hb2 hX
    have mY := heap_below hb2 hY
    clear d1 k0 hX hY hb0
    have d0 : w2.cell? ⟨w.heap.size, 0, none⟩ = some (.slice p l c) := by rw [cell_of_heap m0]; rfl
    go_wp2_with fail
    refine (cA _ b2).mono ?_; rintro r w3 ⟨v', rfl, own3, hb3⟩
    obtain ⟨p', c', rfl⟩ := own_slice own3
    have b3 := b2.trans (hb3.mono b2.size)
    have q0 := heap_below hb3 m0
    have qX := heap_below hb3 mX
    have qY := heap_below hb3 mY
    have d1 : w3.cell? ⟨w.heap.size, 1, none⟩ = some (.string t) := by rw [cell_of_heap q0]; rfl
    have x0 : w3.cell? ⟨X, 0, none⟩ = some (.slice p l c) := by rw [cell_of_heap qX]; rfl
    have x1 : w3.cell? ⟨X, 1, none⟩ = some (.string t) := by rw [cell_of_heap qX]; rfl
    have x2 : w3.cell? ⟨X, 2, none⟩ = some (.int .i64 N) := by rw [cell_of_heap qX]; rfl
    have y0 : w3.cell? ⟨Y, 0, none⟩ = some (.slice p l c) := by rw [cell_of_heap qY]; rfl
    have y1 : w3.cell? ⟨Y, 1, none⟩ = some (.string t) := by rw [cell_of_heap qY]; rfl
    have y2 : w3.cell? ⟨Y, 2, none⟩ = some (.int .i64 N) := by rw [cell_of_heap qY]; rfl
    have g0 : w3.frozen? ⟨X, 0, none⟩ = false := frozen_of_heap qX 0
    have g1 : w3.frozen? ⟨X, 1, none⟩ = false := frozen_of_heap qX 1
    have g2 : w3.frozen? ⟨X, 2, none⟩ = false := frozen_of_heap qX 2
    have k1 : w3.frozen? ⟨Y, 1, none⟩ = false := frozen_of_heap qY 1
    have k2 : w3.frozen? ⟨Y, 2, none⟩ = false := frozen_of_heap qY 2
    have n1 : ¬ X = w.heap.size := by omega
    have n2 : ¬ w.heap.size = X := by omega
    have n3 : ¬ Y = w.heap.size := by omega
    have n4 : ¬ w.heap.size = Y := by omega
    have n5 : ¬ X = Y := nXY
    have n6 : ¬ Y = X := Ne.symm nXY
    have z1 : w.heap.size ≤ X := by omega
    have z2 : w.heap.size ≤ Y := by omega
    have z3 : w.heap.size ≤ w2.heap.size := b2.size
    have hxt : (x : Int) ≤ t.size := by omega
    have hs3 : Hid (OwnA w3 w.heap.size (.slice p' A.length c') A ∧ (∀ k, (Value.slice p' A.length c').ownBlock = some k → k ≠ X ∧ k ≠ Y)) := ⟨own_weaken own3 z3, fun k hk => by have h1 := (owns_block own3 k hk).1; have := (Array.getElem?_eq_some_iff.1 mX).1; have := (Array.getElem?_eq_some_iff.1 mY).1; omega⟩
    have HB3 : Hid (Below w.heap.size w w3) := b3
    clear q0 qX qY m0 mX mY own3 hb3 b3 b2 hb2 d0 lX lY nXY hB zX zY cP cA
    go_wp2
    go_region
    go_wp2
    go_region
    go_wp2
    go_ret2
    refine ⟨p', c', rfl, ?_, ?_⟩
    · exact owns_same hs3.out.1 (fun k hk => by
        obtain ⟨e1, e2⟩ := hs3.out.2 k hk
        repeat (with_reducible first | (refine (heap_drw7 _ _).trans ?_) | (refine (Below.heap_setCell _ _ _ _ e1).trans ?_) | (refine (Below.heap_setCell _ _ _ _ e2).trans ?_) | rfl))
    · repeat (with_reducible first | exact HB3.out | (refine Below.drew ?_) | (refine Below.setCell ?_ (p := ⟨X, _, none⟩) z1 _) | (refine Below.setCell ?_ (p := ⟨Y, _, none⟩) z2 _))
end Go.Proofs.YthfpmhnnjjikcabGreatDoor

/- A piece cut in two; a piece taken. -/
namespace Go.Proofs.YthfpmhnnjjikcabGreatDoor
open Go Go.RowKit Go.Lib
set_option linter.unusedVariables false
set_option maxHeartbeats 2000000 in
set_option maxRecDepth 100000 in
theorem cut71_any {e : Op5} {m : Nat} (p : Option Addr) (l c : Nat) (w : World) (hg : opE e = 0) (hk : e.k = 1) (h1 : 1 ≤ m) (h2 : (m : Int) < len5 e) (ht : e.t.size ≤ 8388608) (hR : RN w (.slice p l c) e.A) (hl : e.A.length ≤ 2097152) :
    Calls Tryz.prog 143 #[pieceQ e (.slice p l c), .int .i64 m] w fun r w' => ∃ s1, r = .returned (.tuple #[pieceQ (hd7 e m) s1, pieceQ (tl7 e m) (.slice p l c)]) ∧ OwnA w' w.heap.size s1 e.A ∧ Below w.heap.size w w' := by
  have hi : Ins e := by
    rcases op_good hg with ⟨hi, _⟩ | ⟨_, _, h⟩ | ⟨_, _, h⟩
    · exact hi
    · omega
    · omega
  obtain ⟨hv1, hv2, hv3⟩ := valid_text e.t hi.utf
  have hlen := len5_1 hk
  rw [hlen] at h2
  have hm : m < (scs e.t.data.toList).length := by omega
  have b0 : Below w.heap.size w (w.alloc (.cells #[.slice p l c, .string e.t, .int .i64 (scs e.t.data.toList).length] 184)) := (Below.refl _ _).alloc (Nat.le_refl _) _
  have cT := cutText_any p l c e.t (scs e.t.data.toList).length e.A (scs e.t.data.toList) m _ (hR.below b0) hl hv2 hv1 (by omega) ht hv3 (by omega) (by omega)
  have q1 : ∀ s1, pieceQ (hd7 e m) s1 = .iface 184 (.agg #[s1, .string (e.t.extract 0 (pos (scs e.t.data.toList) m)), .int .i64 m]) := fun s1 => by
    have e1 : hd7 e m = headO e m := by unfold hd7; rw [if_pos hk]; rfl
    have := (ins_head hi h1 hm).2
    unfold lenO at this
    rw [if_pos (show (headO e m).k = 1 from rfl)] at this
    rw [e1, pieceQ_1 (o := headO e m) rfl, this]; rfl
  have q2 : pieceQ (tl7 e m) (.slice p l c) = .iface 184 (.agg #[.slice p l c, .string (e.t.extract (pos (scs e.t.data.toList) m) e.t.size), .int .i64 (((scs e.t.data.toList).length : Int) - m)]) := by
    have e1 : tl7 e m = tailO e m := by unfold tl7; rw [if_pos hk]; rfl
    have := (ins_tail hi hm).2
    unfold lenO at this
    rw [if_pos (show (tailO e m).k = 1 from rfl)] at this
    rw [e1, pieceQ_1 (o := tailO e m) rfl, this]
    show Value.iface _ (.agg #[_, .string (tailO e m).t, .int .i64 (((scs e.t.data.toList).length - m : Nat) : Int)]) = _
    rw [Int.ofNat_sub (by omega)]; rfl
  rw [q2, pieceQ_1 hk]
  obtain ⟨X, hX⟩ : ∃ X, e.t.extract 0 (pos (scs e.t.data.toList) m) = X := ⟨_, rfl⟩
  obtain ⟨Y, hY⟩ : ∃ X, e.t.extract (pos (scs e.t.data.toList) m) e.t.size = X := ⟨_, rfl⟩
  obtain ⟨n, hn⟩ : ∃ n : Int, ((scs e.t.data.toList).length : Int) = n := ⟨_, rfl⟩
  simp only [hX, hY, hn] at cT q1 b0 ⊢
  have HQ : Hid (∀ s1, pieceQ (hd7 e m) s1 = .iface 184 (.agg #[s1, .string X, .int .i64 m])) := q1
  have a0 := as_i_i
  clear q1 q2 hX hY hn hm h2 hlen hv1 hv2 hv3 hi hg hk ht hR hl
  go_enter Tryz.func143, Tryz.ntmps143
  go_wp2_with fail
  refine cT.mono ?_; rintro r w2 ⟨p', c', rfl, own2, hb2⟩
  have HQ2 : Hid (OwnA w2 w.heap.size (.slice p' e.A.length c') e.A ∧ Below w.heap.size w w2) := ⟨own_weaken own2 b0.size, b0.trans (hb2.mono b0.size)⟩
  clear cT own2 hb2 b0
  go_wp2
  go_ret2
  exact ⟨.slice p' e.A.length c', by rw [HQ.out]; rfl, HQ2.out⟩
set_option maxHeartbeats 2000000 in
set_option maxRecDepth 100000 in
theorem cut73_any {e : Op5} {m : Int} (p : Option Addr) (l c : Nat) (w : World) (hg : opE e = 0) (hk : e.k = 3) (h1 : 1 ≤ m) (h2 : m < e.c) (hR : RN w (.slice p l c) e.A) (hl : e.A.length ≤ 2097152) :
    Calls Tryz.prog 143 #[pieceQ e (.slice p l c), .int .i64 m] w fun r w' => ∃ s1, r = .returned (.tuple #[pieceQ (hd7 e m) s1, pieceQ (tl7 e m) (.slice p l c)]) ∧ OwnA w' w.heap.size s1 e.A ∧ Below w.heap.size w w' := by
  have hc : e.c ≤ 1099511627776 := by
    rcases op_good hg with ⟨_, h⟩ | ⟨hc, _, h⟩ | ⟨_, _, h⟩
    · omega
    · exact hc.hi
    · omega
  have e1 : hd7 e m = ⟨e.k, e.t, e.v, m, e.A⟩ := if_neg (by omega)
  have e2 : tl7 e m = ⟨e.k, e.t, e.v, e.c - m, e.A⟩ := if_neg (by omega)
  have cA := fun W (hW : Below w.heap.size w W) => attributes_any (.slice p l c) e.A W (hR.below hW).row hR.nz hl
  rw [e1, e2]
  simp only [pieceQ_3 hk, pieceQ_3 (o := ⟨e.k, e.t, e.v, m, e.A⟩) hk, pieceQ_3 (o := ⟨e.k, e.t, e.v, e.c - m, e.A⟩) hk]
  obtain ⟨N, hN⟩ : ∃ N, e.c = N := ⟨_, rfl⟩
  rw [hN] at h2 hc ⊢
  have a0 := as_r_i
  have a1 := as_r_r
  clear hR hg hk e1 e2 hN
  go_enter Tryz.func143, Tryz.ntmps143
  go_upto_region 7 with fail
  go_cut [8, 9] (fun x6 x7 wx => ∃ X Y, x6 = .pointer (some ⟨X, 0, none⟩) ∧ x7 = .pointer (some ⟨Y, 0, none⟩) ∧ X ≠ Y ∧ w.heap.size < X ∧ w.heap.size < Y ∧ wx.heap[X]? = some (.cells #[.slice p l c, .int .i64 N] 115 (0, 0)) ∧ wx.heap[Y]? = some (.cells #[.slice p l c, .int .i64 N] 115 (0, 0)) ∧ Below (w.heap.size + 1) (w.alloc (.cells #[.slice p l c, .int .i64 N] 115)) wx)
  case first =>
    go_region
    all_goals (try go_wp2)
    all_goals go_meet
    all_goals obtain ⟨h1, h2, hB⟩ := box3 w _ _ _ rfl
    · exact ⟨_, _, rfl, rfl, by omega, by omega, by omega, h1, h2, hB⟩
    · exact ⟨_, _, rfl, rfl, by omega, by omega, by omega, h2, h1, hB⟩
  case rest =>
    obtain ⟨X, Y, rfl, rfl, nXY, lX, lY, hX, hY, hB⟩ := hcut
    have hb0 : Below w.heap.size w wc := ((Below.refl _ w).alloc (Nat.le_refl _) _).trans (hB.mono (by omega))
    have k0 : wc.heap[w.heap.size]? = some (.cells #[.slice p l c, .int .i64 N] 115 (0, 0)) := (hB.block _ (by omega)).trans (heap_alloc_new w _)
    have zX := (Array.getElem?_eq_some_iff.1 hX).1
    have zY := (Array.getElem?_eq_some_iff.1 hY).1
    have d0 : wc.cell? ⟨w.heap.size, 0, none⟩ = some (.slice p l c) := by rw [cell_of_heap k0]; rfl
    go_wp2_with fail
    refine (cA _ hb0).mono ?_; rintro r w3 ⟨v', rfl, own3, hb3⟩
    obtain ⟨p', c', rfl⟩ := own_slice own3
    have b3 := hb0.trans (hb3.mono hb0.size)
    have q0 := heap_below hb3 k0
    have qX := heap_below hb3 hX
    have qY := heap_below hb3 hY
    have x0 : w3.cell? ⟨X, 0, none⟩ = some (.slice p l c) := by rw [cell_of_heap qX]; rfl
    have x1 : w3.cell? ⟨X, 1, none⟩ = some (.int .i64 N) := by rw [cell_of_heap qX]; rfl
    have y0 : w3.cell? ⟨Y, 0, none⟩ = some (.slice p l c) := by rw [cell_of_heap qY]; rfl
    have y1 : w3.cell? ⟨Y, 1, none⟩ = some (.int .i64 N) := by rw [cell_of_heap qY]; rfl
    have g0 : w3.frozen? ⟨X, 0, none⟩ = false := frozen_of_heap qX 0
    have g1 : w3.frozen? ⟨X, 1, none⟩ = false := frozen_of_heap qX 1
    have k1 : w3.frozen? ⟨Y, 1, none⟩ = false := frozen_of_heap qY 1
    have n5 : ¬ X = Y := nXY
    have n6 : ¬ Y = X := Ne.symm nXY
    have z1 : w.heap.size ≤ X := by omega
    have z2 : w.heap.size ≤ Y := by omega
    have z3 : w.heap.size ≤ wc.heap.size := hb0.size
    have hs3 : Hid (OwnA w3 w.heap.size (.slice p' e.A.length c') e.A ∧ (∀ k, (Value.slice p' e.A.length c').ownBlock = some k → k ≠ X ∧ k ≠ Y)) := ⟨own_weaken own3 z3, fun k hk => by have h1 := (owns_block own3 k hk).1; omega⟩
    have HB3 : Hid (Below w.heap.size w w3) := b3
    clear q0 qX qY hX hY own3 hb3 b3 hb0 d0 k0 lX lY nXY hB zX zY cA
    go_wp2
    go_region
    go_wp2
    go_ret2
    refine ⟨_, rfl, ?_, ?_⟩
    · exact owns_same hs3.out.1 (fun k hk => by
        obtain ⟨e1, e2⟩ := hs3.out.2 k hk
        repeat (with_reducible first | (refine (heap_drw7 _ _).trans ?_) | (refine (Below.heap_setCell _ _ _ _ e1).trans ?_) | (refine (Below.heap_setCell _ _ _ _ e2).trans ?_) | rfl))
    · repeat (with_reducible first | exact HB3.out | (refine Below.drew ?_) | (refine Below.setCell ?_ (p := ⟨X, _, none⟩) z1 _) | (refine Below.setCell ?_ (p := ⟨Y, _, none⟩) z2 _))
set_option maxHeartbeats 2000000 in
set_option maxRecDepth 100000 in
theorem cut74_any {e : Op5} {m : Int} (s : Value) (w : World) (hg : opE e = 0) (hk : e.k = 4) (h1 : 1 ≤ m) (h2 : m < e.c) :
    Calls Tryz.prog 143 #[pieceQ e s, .int .i64 m] w fun r w' => ∃ s1, r = .returned (.tuple #[pieceQ (hd7 e m) s1, pieceQ (tl7 e m) s]) ∧ OwnA w' w.heap.size s1 e.A ∧ Below w.heap.size w w' := by
  have hh : e.c ≤ 1099511627776 ∧ e.A = [] := by
    rcases op_good hg with ⟨_, h⟩ | ⟨hc, _, h⟩ | ⟨hc, hA, h⟩
    · omega
    · omega
    · exact ⟨hc.hi, hA⟩
  obtain ⟨hc, hA⟩ := hh
  have e1 : hd7 e m = ⟨e.k, e.t, e.v, m, e.A⟩ := if_neg (by omega)
  have e2 : tl7 e m = ⟨e.k, e.t, e.v, e.c - m, e.A⟩ := if_neg (by omega)
  rw [e1, e2, hA]
  simp only [pieceQ_4 hk, pieceQ_4 (o := ⟨e.k, e.t, e.v, m, []⟩) hk, pieceQ_4 (o := ⟨e.k, e.t, e.v, e.c - m, []⟩) hk]
  obtain ⟨N, hN⟩ : ∃ N, e.c = N := ⟨_, rfl⟩
  rw [hN] at h2 hc ⊢
  have a0 := as_d_i
  have a1 := as_d_r
  have a2 := as_d_d
  clear hg hk e1 e2 hN hA
  go_enter Tryz.func143, Tryz.ntmps143
  go_wp2
  go_region
  go_wp2
  go_ret2
  exact ⟨.slice none 0 0, rfl, World.ownsRow_nil _ _ _ _, ((Below.refl _ _).alloc (Nat.le_refl _) _).drew⟩
theorem cut7_any {e : Op5} {m : Int} (p : Option Addr) (l c : Nat) (w : World) (hg : opE e = 0) (h1 : 1 ≤ m) (h2 : m < len5 e) (ht : e.t.size ≤ 8388608) (hR : RN w (.slice p l c) e.A) (hl : e.A.length ≤ 2097152) :
    Calls Tryz.prog 143 #[pieceQ e (.slice p l c), .int .i64 m] w fun r w' => ∃ s1, r = .returned (.tuple #[pieceQ (hd7 e m) s1, pieceQ (tl7 e m) (.slice p l c)]) ∧ OwnA w' w.heap.size s1 e.A ∧ Below w.heap.size w w' := by
  rcases kinds_of hg with hk | hk | hk | hk
  · obtain ⟨n, rfl⟩ : ∃ n : Nat, m = n := ⟨m.toNat, by omega⟩
    exact cut71_any p l c w hg hk (by omega) h2 ht hR hl
  · rw [len5_2 hk] at h2; omega
  · exact cut73_any p l c w hg hk h1 (by rwa [len5_3 (.inl hk)] at h2) hR hl
  · exact cut74_any _ w hg hk h1 (by rwa [len5_3 (.inr hk)] at h2)
end Go.Proofs.YthfpmhnnjjikcabGreatDoor

/- What a Walker takes. -/
namespace Go.Proofs.YthfpmhnnjjikcabGreatDoor
open Go Go.RowKit Go.Lib
set_option linter.unusedVariables false
set_option maxHeartbeats 4000000 in
set_option maxRecDepth 100000 in
theorem takeNil_any {B q g : Nat} (n : Int) (w : World) (h : WkV w B q g []) (hn : 1 ≤ n ∧ n ≤ 9223372036854775807) :
    Calls Tryz.prog 128 #[.pointer (some ⟨q, 0, none⟩), .int .i64 n] w fun r w' => ∃ s, r = .returned (pieceQ (nx7 [] n).1 s) ∧ OwnA w' B s (nx7 [] n).1.A ∧ WkV w' B q g (nx7 [] n).2 ∧ FrW q g w w' := by
  have cD := doneW_any w h
  rw [decide_eq_true rfl] at cD
  have HW : Hid (∀ W, Below w.heap.size w W → WkV W B q g []) := fun W hW => h.below hW
  have hq : ∀ s, pieceQ (nx7 [] n).1 s = .iface 115 (.agg #[s, .int .i64 (min n 1099511627776)]) := fun s => pieceQ_3 rfl
  have HQ : Hid _ := hq
  obtain ⟨hn1, hn2⟩ := hn
  clear h hq
  by_cases hm : n ≤ 1099511627776
  · have hmin : Hid (min n 1099511627776 = n) := by show _ = _; omega
    go_enter Tryz.func128, Tryz.ntmps128
    go_wp2_with fail
    refine cD.mono ?_; rintro r w2 ⟨rfl, hb2⟩
    clear cD
    go_wp2
    go_ret
    exact ⟨.slice none 0 0, by rw [HQ.out, hmin.out]; rfl, World.ownsRow_nil _ _ _ _, HW.out _ hb2, FrW.of_below hb2⟩
  · have hmin : Hid (min n 1099511627776 = 1099511627776) := by show _ = _; omega
    go_enter Tryz.func128, Tryz.ntmps128
    go_wp2_with fail
    refine cD.mono ?_; rintro r w2 ⟨rfl, hb2⟩
    clear cD
    go_wp2
    go_ret
    exact ⟨.slice none 0 0, by rw [HQ.out, hmin.out]; rfl, World.ownsRow_nil _ _ _ _, HW.out _ hb2, FrW.of_below hb2⟩
set_option maxHeartbeats 4000000 in
set_option maxRecDepth 100000 in
theorem takeAll_any {B q g : Nat} {x : Op5} {r : List Op5} (n : Int) (w : World) (h : WkV w B q g (x :: r)) (hg : opE x = 0) (hn : len5 x ≤ n) (hr : r.length ≤ 8388608) :
    Calls Tryz.prog 128 #[.pointer (some ⟨q, 0, none⟩), .int .i64 n] w fun e w' => ∃ s, e = .returned (pieceQ (nx7 (x :: r) n).1 s) ∧ OwnA w' B s (nx7 (x :: r) n).1.A ∧ WkV w' B q g (nx7 (x :: r) n).2 ∧ FrW q g w w' := by
  rw [nx_all hn]
  have cD := doneW_any w h
  rw [decide_eq_false (List.cons_ne_nil _ _)] at cD
  obtain ⟨off, cap, s, c0, f0, hc, c1, f1, hs⟩ := h.read1
  have hl : (0 : Int) < ((r.length + 1 : Nat) : Int) := by omega
  obtain ⟨m, hm⟩ : ∃ m, r.length = m := ⟨_, rfl⟩
  obtain ⟨u, y, hux⟩ := pieceQ_if x s
  have HU : Hid (pieceQ x s = .iface u y) := hux
  have HM : Hid (r.length = m) := hm
  have HC : Hid (w.cell? ⟨q, 0, none⟩ = some (.slice (some ⟨g, off, none⟩) (r.length + 1) cap) ∧ OwnA w B s x.A ∧ WkV w B q g (x :: r)) := ⟨c0, hs, h⟩
  have hnn : Hid (len5 x ≤ n) := hn
  rw [hux] at c1
  rw [hm] at c0 hl hc hr
  obtain ⟨L, hL⟩ : ∃ L, len5 x = L := ⟨_, rfl⟩
  have HL : Hid (len5 x = L) := hL
  rw [hL] at hn
  have hge : L ≤ n := hn
  have hne : q ≠ g := h.ne
  have hne2 : g ≠ q := Ne.symm hne
  clear h hux hm hs hn hL
  go_enter Tryz.func128, Tryz.ntmps128
  go_wp2_with fail
  refine cD.mono ?_; rintro r' w2 ⟨rfl, hb2⟩
  have d0 := (hb2.cell (lt_of_cell c0)).trans c0
  have d1 := (hb2.cell (lt_of_cell c1)).trans c1
  have e0 := (hb2.frozen (lt_of_cell c0)).trans f0
  have HB2 : Hid (Below w.heap.size w w2) := hb2
  clear cD c0 c1 f0 f1 hb2
  go_wp2_with (refine wpList_lenP rfl (.tmp 21) rfl x s HU.out.symm hg ?_; rw [HL.out]; intro w3 hb3; have d0' := (hb3.cell (lt_of_cell d0)).trans d0; have e0' := (hb3.frozen (lt_of_cell d0)).trans e0; clear d0 e0)
  all_goals
    have H3 : WkV w3 B q g (x :: r) := (HC.out.2.2.below HB2.out).below hb3
    have C3 : w3.cell? ⟨q, 0, none⟩ = some (.slice (some ⟨g, off, none⟩) (r.length + 1) cap) := by rw [HM.out]; exact d0'
    have O3 : OwnA w3 B s x.A := owns_below (owns_below HC.out.2.1 HB2.out) hb3
    have F3 : FrW q g w w3 := (FrW.of_below HB2.out).trans (FrW.of_below hb3)
  · have hr0 : r = [] := List.eq_nil_of_length_eq_zero (by have := HM.out; omega)
    have hm0 : m = 0 := by omega
    subst hr0
    obtain ⟨a1, a2⟩ := H3.drop (p' := some ⟨g, off, none⟩) (c' := 0) C3 (Nat.zero_le _) (fun h => absurd rfl h)
    subst hm0
    go_ret
    exact ⟨s, by rw [HU.out]; rfl, keepA_own O3 a2.keepA, a1, F3.trans a2⟩
  · obtain ⟨a1, a2⟩ := H3.drop (p' := some ⟨g, off + 1, none⟩) (c' := cap - 1) C3 (by rw [HM.out]; omega) (fun _ => rfl)
    rw [HM.out] at a1 a2
    go_ret
    exact ⟨s, by rw [HU.out]; rfl, keepA_own O3 a2.keepA, a1, F3.trans a2⟩
set_option maxHeartbeats 4000000 in
set_option maxRecDepth 100000 in
theorem takePart_any {B q g : Nat} {x : Op5} {r : List Op5} (n : Int) (w : World) (h : WkV w B q g (x :: r)) (hg : opE x = 0) (h1 : 1 ≤ n) (hn : ¬ len5 x ≤ n) (ht : x.t.size ≤ 8388608) (hA : x.A.length ≤ 2097152) :
    Calls Tryz.prog 128 #[.pointer (some ⟨q, 0, none⟩), .int .i64 n] w fun e w' => ∃ s, e = .returned (pieceQ (nx7 (x :: r) n).1 s) ∧ OwnA w' B s (nx7 (x :: r) n).1.A ∧ WkV w' B q g (nx7 (x :: r) n).2 ∧ FrW q g w w' := by
  rw [nx_part hn]
  have cx := cut7 hg h1 (by omega)
  have cD := doneW_any w h
  rw [decide_eq_false (List.cons_ne_nil _ _)] at cD
  obtain ⟨off, cap, s, c0, f0, hc, c1, f1, hs⟩ := h.read1
  obtain ⟨ps, cs, rfl⟩ := own_slice hs
  have cC := fun W (hW : Below w.heap.size w W) => cut7_any ps x.A.length cs W hg h1 (by omega) ht (own_RN (owns_below hs hW)) hA
  have hl : (0 : Int) < ((r.length + 1 : Nat) : Int) := by omega
  obtain ⟨m, hm⟩ : ∃ m, r.length = m := ⟨_, rfl⟩
  have HM : Hid (r.length = m) := hm
  obtain ⟨u, y, hux⟩ := pieceQ_if x (.slice ps x.A.length cs)
  have HU : Hid (pieceQ x (.slice ps x.A.length cs) = .iface u y) := hux
  obtain ⟨ut, yt, hut⟩ := pieceQ_if (tl7 x n) (.slice ps x.A.length cs)
  have HT : Hid (pieceQ (tl7 x n) (.slice ps x.A.length cs) = .iface ut yt) := hut
  have HX : Hid ((hd7 x n).A = x.A ∧ (tl7 x n).A = x.A) := ⟨cx.hA, cx.tA⟩
  have HC : Hid (w.cell? ⟨q, 0, none⟩ = some (.slice (some ⟨g, off, none⟩) (r.length + 1) cap) ∧ OwnA w B (.slice ps x.A.length cs) x.A ∧ WkV w B q g (x :: r)) := ⟨c0, hs, h⟩
  rw [hux] at c1
  simp only [hux, hut] at cC
  rw [hm] at c0 hl hc
  obtain ⟨L, hL⟩ : ∃ L, len5 x = L := ⟨_, rfl⟩
  have HL : Hid (len5 x = L) := hL
  rw [hL] at hn
  have hge : ¬ L ≤ n := hn
  have hne : q ≠ g := h.ne
  have hne2 : g ≠ q := Ne.symm hne
  have hB : B ≤ w.heap.size := by have := h.lq; have := h.lt; omega
  clear h hux hm hs hn hL hut cx
  go_enter Tryz.func128, Tryz.ntmps128
  go_wp2_with fail
  refine cD.mono ?_; rintro r' w2 ⟨rfl, hb2⟩
  have d0 := (hb2.cell (lt_of_cell c0)).trans c0
  have d1 := (hb2.cell (lt_of_cell c1)).trans c1
  have e1 := (hb2.frozen (lt_of_cell c1)).trans f1
  have HB2 : Hid (Below w.heap.size w w2) := hb2
  clear cD c0 c1 f0 f1 hb2
  go_wp2_with (refine wpList_lenP rfl (.tmp 21) rfl x (.slice ps x.A.length cs) HU.out.symm hg ?_; rw [HL.out]; intro w3 hb3; have d0' := (hb3.cell (lt_of_cell d0)).trans d0; have d1' := (hb3.cell (lt_of_cell d1)).trans d1; have e1' := (hb3.frozen (lt_of_cell d1)).trans e1; have b3 := HB2.out.trans (hb3.mono HB2.out.size); clear d0 d1 e1 hb3)
  refine (cC _ b3).mono ?_; rintro r' w4 ⟨s1, rfl, own4, hb4⟩
  obtain ⟨uh, yh, huh⟩ := pieceQ_if (hd7 x n) s1
  have HH : Hid (pieceQ (hd7 x n) s1 = .iface uh yh) := huh
  rw [huh]
  have d0 := (hb4.cell (lt_of_cell d0')).trans d0'
  have d1 := (hb4.cell (lt_of_cell d1')).trans d1'
  have e1 := (hb4.frozen (lt_of_cell d1')).trans e1'
  have b4 := b3.trans (hb4.mono b3.size)
  have H4 : Hid (WkV w4 B q g (x :: r) ∧ OwnA w4 B (.slice ps x.A.length cs) x.A ∧ OwnA w4 B s1 x.A ∧ FrW q g w w4) := ⟨HC.out.2.2.below b4, owns_below HC.out.2.1 b4, own_weaken own4 (Nat.le_trans hB b3.size), FrW.of_below b4⟩
  clear cC huh own4 hb4 b3 b4 d0' d1' e1' hB
  go_wp2
  have C4 : w4.cell? ⟨q, 0, none⟩ = some (.slice (some ⟨g, off, none⟩) (r.length + 1) cap) := by rw [HM.out]; exact d0
  go_ret
  obtain ⟨g1, g2, g3, g4⟩ := H4.out
  obtain ⟨a1, a2⟩ := g1.put (x' := tl7 x n) (s' := .slice ps x.A.length cs) C4 (by rw [HX.out.2]; exact g2)
  rw [HT.out] at a1 a2
  exact ⟨s1, by rw [HH.out]; rfl, by rw [HX.out.1]; exact keepA_own g3 a2.keepA, a1, g4.trans a2⟩
theorem take_any {B q g : Nat} {R : List Op5} {N T K : Nat} (n : Int) (w : World) (h : WkV w B q g R) (hR : Rst R N T K) (hT : T ≤ 8388608) (hK : K ≤ 2097152) (hN : N ≤ 8388608) (hn : 1 ≤ n ∧ n ≤ 9223372036854775807) :
    Calls Tryz.prog 128 #[.pointer (some ⟨q, 0, none⟩), .int .i64 n] w fun e w' => ∃ s, e = .returned (pieceQ (nx7 R n).1 s) ∧ OwnA w' B s (nx7 R n).1.A ∧ WkV w' B q g (nx7 R n).2 ∧ FrW q g w w' := by
  cases R with
  | nil => exact takeNil_any n w h hn
  | cons x r =>
    have hx := hR.good x (List.mem_cons_self ..)
    by_cases hl : len5 x ≤ n
    · exact takeAll_any n w h hx hl (by have := hR.len; simp at this; omega)
    · exact takePart_any n w h hx hn.1 hl (Nat.le_trans (hR.size x (List.mem_cons_self ..)) hT) (Nat.le_trans (hR.attr x (List.mem_cons_self ..)) hK)
end Go.Proofs.YthfpmhnnjjikcabGreatDoor

/- Next and Rest of a Walker. -/
namespace Go.Proofs.YthfpmhnnjjikcabGreatDoor
open Go Go.RowKit Go.Lib
set_option linter.unusedVariables false
set_option maxHeartbeats 2000000 in
set_option maxRecDepth 100000 in
theorem nextW_any {B q g : Nat} {R : List Op5} {N T K : Nat} (n : Int) (w : World) (h : WkV w B q g R) (hR : Rst R N T K) (hT : T ≤ 8388608) (hK : K ≤ 2097152) (hN : N ≤ 8388608) (hn : 1 ≤ n ∧ n ≤ 9223372036854775807) :
    Calls Tryz.prog 122 #[.pointer (some ⟨q, 0, none⟩), .int .i64 n] w fun e w' => ∃ s, e = .returned (.tuple #[pieceQ (nx7 R n).1 s, .nilIface]) ∧ OwnA w' B s (nx7 R n).1.A ∧ WkV w' B q g (nx7 R n).2 ∧ FrW q g w w' := by
  have cT := take_any n w h hR hT hK hN hn
  have hn1 : ¬ n < 1 := by omega
  obtain ⟨P, hP⟩ : ∃ P, (nx7 R n).1 = P := ⟨_, rfl⟩
  rw [hP] at cT ⊢
  clear h hR hP
  go_enter Tryz.func122, Tryz.ntmps122
  go_wp2_with fail
  refine cT.mono ?_; rintro r w2 ⟨s, rfl, own2, h2, f2⟩
  obtain ⟨u, x, hux⟩ := pieceQ_if P s
  have HU : Hid (pieceQ P s = .iface u x) := hux
  have HW : Hid (OwnA w2 B s P.A ∧ WkV w2 B q g (nx7 R n).2 ∧ FrW q g w w2) := ⟨own2, h2, f2⟩
  rw [hux]
  clear cT own2 h2 f2 hux
  go_wp2
  go_ret2
  exact ⟨s, by rw [HU.out]; rfl, HW.out⟩
/-- What a Walker's row tells, one by one. -/
theorem WkV.row {w : World} {B q g : Nat} {R : List Op5} (h : WkV w B q g R) : ∃ p cap, w.cell? ⟨q, 0, none⟩ = some (.slice p R.length cap) ∧ R.length ≤ cap ∧ ∀ j, j < R.length → ∃ off e s, p = some ⟨g, off, none⟩ ∧ R[j]? = some e ∧ w.cell? ⟨g, off + j, none⟩ = some (pieceQ e s) ∧ OwnA w B s e.A := by
  obtain ⟨_, _, _, p, cap, h4, h5, h6⟩ := h
  refine ⟨p, cap, by rw [cell_of_heap h4]; rfl, h5, fun j hj => ?_⟩
  obtain ⟨off, cs, e, hgo, hr⟩ := h6 (fun h0 => by rw [h0] at hj; simp at hj)
  obtain ⟨s, a1, a2⟩ := hr j R[j] (List.getElem?_eq_getElem hj)
  exact ⟨off, R[j], s, e, List.getElem?_eq_getElem hj, by rw [cell_of_heap hgo]; exact a1, a2⟩
end Go.Proofs.YthfpmhnnjjikcabGreatDoor

/- measure: take: the next cells of a Walker, as pieces. -/
namespace Go.Proofs.YthfpmhnnjjikcabGreatDoor
open Go Go.RowKit Go.Lib
set_option linter.unusedVariables false
theorem frw_own {q g M : Nat} {w w' : World} {v : Value} {P : List Value} (f : FrW q g w w') (h : OwnI w M v P) (hq : q < M) (hg : g < M) : OwnI w' M v P :=
  owns_same h fun b e => by
    obtain ⟨h1, cs, h2⟩ := owns_block h b e
    rw [f.kept b _ h2 (.inr ⟨by omega, by omega⟩), h2]
theorem WkV.same8 {w w' : World} {B q g : Nat} {R : List Op5} (h : WkV w B q g R) (hq : ∀ o, w.heap[q]? = some o → w'.heap[q]? = some o) (hg : R ≠ [] → ∀ o, w.heap[g]? = some o → w'.heap[g]? = some o) (hk : KeepA w w') : WkV w' B q g R := by
  obtain ⟨h1, h2, h3, p, cap, h4, h5, h6⟩ := h
  refine ⟨h1, h2, h3, p, cap, hq _ h4, h5, fun h0 => ?_⟩
  obtain ⟨off, cs, e, hgo, hr⟩ := h6 h0
  refine ⟨off, cs, e, hg h0 _ hgo, fun j x hx => ?_⟩
  obtain ⟨s, a1, a2⟩ := hr j x hx
  exact ⟨s, a1, keepA_own a2 hk⟩
theorem tk_step {R : List Op5} {N T K : Nat} (h : Rst R N T K) (h0 : R ≠ []) {n : Int} (h1 : 1 ≤ n) : (left7 R ≤ n → len5 (nx7 R n).1 = left7 R ∧ (nx7 R n).1.t.size + txtS (nx7 R n).2 ≤ txtS R ∧ (nx7 R n).2.length + 1 = R.length) ∧ (¬ left7 R ≤ n → len5 (nx7 R n).1 = n ∧ (nx7 R n).1.t.size + txtS (nx7 R n).2 ≤ txtS R + T ∧ (nx7 R n).2.length = R.length) := by
  cases R with
  | nil => exact absurd rfl h0
  | cons x r =>
    have hx := h.good x (List.mem_cons_self ..)
    refine ⟨fun hl => ?_, fun hl => ?_⟩
    · have e : nx7 (x :: r) n = (x, r) := nx_all hl
      rw [e]
      exact ⟨rfl, by rw [txtS_cons]; exact Nat.le_refl _, by simp⟩
    · have hl' : ¬ len5 x ≤ n := hl
      have e : nx7 (x :: r) n = (hd7 x n, tl7 x n :: r) := nx_part hl'
      have c := cut7 hx h1 (by omega)
      have := c.hz
      have := c.tz
      have := h.txt
      rw [e]
      refine ⟨c.hl, ?_, by simp⟩
      show (hd7 x n).t.size + txtS (tl7 x n :: r) ≤ _
      rw [txtS_cons] at *
      rw [txtS_cons]
      omega
theorem units_nil_len {R : List Op5} {m : Int} (h : m ≤ ((units R).length : Int)) (h1 : 1 ≤ m) : R ≠ [] := fun e => by subst e; simp [units] at h; omega
/-- What take has behind it. -/
structure Tk8 (w wr : World) (B q g : Nat) (R : List Op5) (N T K : Nat) (n m : Int) (P R' : List Op5) : Prop where
  wk : WkV wr B q g R'
  rst : Rst R' N T K
  un : units R = units P ++ units R'
  len : m + ((units P).length : Int) = n
  few : m ≤ ((units R').length : Int)
  good : ∀ o ∈ P, opE o = 0 ∧ FitA o
  fr : FrW q g w wr
  ne : R' ≠ [] → R ≠ []
  cnt : (txtS P + txtS R' ≤ txtS R ∧ P.length + R'.length ≤ R.length) ∨ (m = 0 ∧ txtS P + txtS R' ≤ txtS R + T ∧ P.length + R'.length ≤ R.length + 1)
theorem Tk8.step {w wr w8 : World} {B q g : Nat} {R : List Op5} {N T K : Nat} {n m : Int} {P R' : List Op5} (h : Tk8 w wr B q g R N T K n m P R') (h1 : 1 ≤ m) (hk : WkV w8 B q g (nx7 R' m).2) (hf : FrW q g w w8) : Tk8 w w8 B q g R N T K n (m - len5 (nx7 R' m).1) (P ++ [(nx7 R' m).1]) (nx7 R' m).2 ∧ 1 ≤ len5 (nx7 R' m).1 ∧ len5 (nx7 R' m).1 ≤ m := by
  have h0 := units_nil_len h.few h1
  obtain ⟨p1, p2, p3, p4, p5, p6⟩ := h.rst.piece h1
  have hu := h.rst.units h1 h0
  have hl := len5_units (wel_of p1)
  have hp := len5_pos p1
  obtain ⟨s1, s2⟩ := tk_step h.rst h0 h1
  have hle : len5 (nx7 R' m).1 ≤ m := by omega
  refine ⟨⟨hk, h.rst.next h1, ?_, ?_, ?_, ?_, hf, fun _ => h.ne h0, ?_⟩, hp, hle⟩
  · rw [h.un, hu, units_append, units_one, List.append_assoc]
  · have := h.len
    rw [units_append, units_one, List.length_append]
    omega
  · have h3 := h.few
    rw [hu, List.length_append] at h3
    omega
  · intro o ho
    rcases List.mem_append.1 ho with ho | ho
    · exact h.good o ho
    · rw [List.mem_singleton.1 ho]; exact ⟨p1, p2⟩
  · have hc := h.cnt.resolve_right (by omega)
    rw [txtS_append, txtS_one, List.length_append]
    by_cases hl2 : left7 R' ≤ m
    · have := s1 hl2
      left
      simp only [List.length_singleton]
      omega
    · have := s2 hl2
      have ht := h.rst.txt
      right
      simp only [List.length_singleton]
      omega
set_option maxHeartbeats 4000000 in
set_option maxRecDepth 100000 in
theorem take8_any {B q g : Nat} {R : List Op5} {N T K : Nat} (n : Int) (w : World) (h : WkV w B q g R) (hgl : R ≠ [] → g < w.heap.size) (hR : Rst R N T K) (hT : T ≤ 4194304) (hK : K ≤ 2097152) (hN : N ≤ 4194304) (hn : 0 ≤ n ∧ n ≤ ((units R).length : Int) ∧ n ≤ 2199023255552) :
    Calls Tryz.prog 93 #[.pointer (some ⟨q, 0, none⟩), .int .i64 n] w fun r w' => ∃ v, r = .returned v ∧ ∃ P R', Tk8 w w' B q g R N T K n 0 P R' ∧ ∃ PL, OwnI w' w.heap.size v PL ∧ PieD w' B PL P := by
  have hq := h.lt
  have HB : Hid (q < w.heap.size ∧ (R ≠ [] → g < w.heap.size) ∧ B ≤ w.heap.size) := ⟨hq, hgl, by have := h.lq; omega⟩
  have HL : Hid (R.length ≤ N) := hR.len
  have H0 : Hid (Tk8 w w B q g R N T K n n [] R) := ⟨h, hR, rfl, by simp [units], hn.2.1, fun o ho => (by cases ho), FrW.refl _ _ _, id, .inl ⟨by simp [txtS], by simp⟩⟩
  have hn1 : 0 ≤ n := hn.1
  have hn2 : n ≤ 2199023255552 := hn.2.2
  clear h hgl hR hn hq
  go_enter Tryz.func93, Tryz.ntmps93
  go_wp2
  go_loopw [1, 5] (fun x1 x5 wr => ∃ (m : Int) (P R' : List Op5) (PL : List Value), x1 = .int .i64 m ∧ 0 ≤ m ∧ m ≤ 2199023255552 ∧ Hid (Tk8 w wr B q g R N T K n m P R') ∧ Hid (OwnI wr w.heap.size x5 PL ∧ PieD wr B PL P)) (fun x1 _ _ => (RowKit.intOf x1).toNat)
  case atStart => exact ⟨n, [], R, [], rfl, hn1, hn2, H0.out, World.ownsRow_nil _ _ _ _, .nil⟩
  case round =>
    clear H0 hn1 hn2
    obtain ⟨m, P, R', PL, rfl, hm0, hm2, HT, HO⟩ := hrel
    by_cases hlt : 0 < m
    · have h0 := units_nil_len HT.out.few hlt
      have cN := nextW_any m wr HT.out.wk HT.out.rst (by omega) hK (by omega) ⟨hlt, by omega⟩
      have hpc := (HT.out.rst.piece (n := m) hlt).1
      have HS : Hid (∀ w8, WkV w8 B q g (nx7 R' m).2 → FrW q g w w8 → Tk8 w w8 B q g R N T K n (m - len5 (nx7 R' m).1) (P ++ [(nx7 R' m).1]) (nx7 R' m).2 ∧ 1 ≤ len5 (nx7 R' m).1 ∧ len5 (nx7 R' m).1 ≤ m) := fun w8 => HT.out.step hlt
      have HG : Hid (g < w.heap.size) := HB.out.2.1 (HT.out.ne h0)
      have hPL : PL.length ≤ 8388608 := by
        rw [forall2_len HO.out.2]
        have := HT.out.cnt
        have := HL.out
        omega
      have HF : Hid (FrW q g w wr) := HT.out.fr
      obtain ⟨e, he⟩ : ∃ x, (nx7 R' m).1 = x := ⟨_, rfl⟩
      obtain ⟨R2, hR2⟩ : ∃ x, (nx7 R' m).2 = x := ⟨_, rfl⟩
      rw [he] at hpc cN HS
      rw [hR2] at cN HS
      clear he hR2 h0 HT
      go_wp2_with fail
      refine cN.mono ?_; rintro r w2 ⟨s, rfl, o2, k2, f2⟩
      obtain ⟨u, y, hux⟩ := pieceQ_if e s
      have HU : Hid (pieceQ e s = .iface u y) := hux
      rw [hux]
      have f02 := HF.out.trans f2
      have ba : Below w2.heap.size w2 (w2.alloc (.cells #[.iface u y] 102)) := (Below.refl _ _).alloc (Nat.le_refl _) _
      have hu6 : (w2.alloc (.cells #[.iface u y] 102)).cell? ⟨w2.heap.size, 0, none⟩ = some (.iface u y) := by simp
      have hz2 : w.heap.size ≤ w2.heap.size := f02.size
      have HO7 : Hid (OwnI (w2.alloc (.cells #[.iface u y] 102)) w.heap.size u5 PL) := owns_below (frw_own f2 HO.out.1 HB.out.1 HG.out) ba
      have HP7 : Hid (PieD (w2.alloc (.cells #[.iface u y] 102)) B (PL ++ [.iface u y]) (P ++ [e])) := forall2_append ((HO.out.2.keep f2.keepA).below ba) (.cons ⟨s, HU.out.symm, owns_below o2 ba⟩ .nil)
      have hzA : w.heap.size ≤ (w2.alloc (.cells #[.iface u y] 102)).heap.size := Nat.le_trans hz2 ba.size
      have HK7 : Hid (∀ w8, (w2.alloc (.cells #[.iface u y] 102)).grownBy w8 u5.ownBlock → Tk8 w w8 B q g R N T K n (m - len5 e) (P ++ [e]) R2 ∧ PieD w8 B (PL ++ [.iface u y]) (P ++ [e]) ∧ 1 ≤ len5 e ∧ len5 e ≤ m ∧ ∀ w9, Below w8.heap.size w8 w9 → Tk8 w w9 B q g R N T K n (m - len5 e) (P ++ [e]) R2) := fun w8 gr8 => by
        have b8 : Below w.heap.size w2 w8 := (ba.mono hz2).grown gr8 hzA (fun j hj => (owns_block HO7.out j hj).1)
        have kA := keepA_grownI HO7.out gr8
        have one : ∀ w9, Below w.heap.size w2 w9 → KeepA w2 w9 → Tk8 w w9 B q g R N T K n (m - len5 e) (P ++ [e]) R2 ∧ 1 ≤ len5 e ∧ len5 e ≤ m := fun w9 b9 k9 => by
          refine HS.out w9 (k2.same8 (fun o ho => (b9.block q HB.out.1).trans ho) (fun _ o ho => (b9.block g HG.out).trans ho) k9) ⟨b9.os.trans f02.os, b9.tape.trans f02.tape, b9.output.trans f02.output, Nat.le_trans f02.size b9.size, fun k o hk ho => ?_⟩
          exact (b9.block k (Array.getElem?_eq_some_iff.1 hk).1).trans (f02.kept k o hk ho)
        have k8 : KeepA w2 w8 := fun k cur hk => by
          have h3 := keepA_below ba k cur hk
          rw [kA k cur (h3.trans hk), h3]
        obtain ⟨t1, t2, t3⟩ := one w8 b8 k8
        refine ⟨t1, HP7.out.keep kA, t2, t3, fun w9 b9 => (one w9 (b8.trans (b9.mono (Nat.le_trans hz2 b8.size))) (fun k cur hk => ?_)).1⟩
        have h3 := k8 k cur hk
        rw [keepA_below b9 k cur (h3.trans hk), h3]
      clear cN o2 k2 f2 f02 hux HS HO HF ba
      go_wp2_with (first
        | (at_builtin; refine wpList_append_piAt rfl (.tmp 16) (.tmp 18) rfl w.heap.size u5 PL rfl HO7.out w2.heap.size 1 (.iface u y) rfl hu6 rfl hPL hzA ?_; intro v8 w8 own8 gr8 hat8; obtain ⟨-, hP8, hl1, hl2, hT8⟩ := HK7.out w8 gr8; have HO8 : Hid (OwnI w8 w.heap.size v8 (PL ++ [.iface u y]) ∧ PieD w8 B (PL ++ [.iface u y]) (P ++ [e])) := ⟨own8, hP8⟩; have HT8 : Hid _ := hT8; clear own8 gr8 hat8 HO7 HP7 HK7 hu6 hP8 hT8)
        | (refine wpList_lenP rfl (.tmp 21) rfl e s HU.out.symm hpc ?_; intro w9 b9; have HT9 := HT8.out w9 b9; have HO9 : Hid (OwnI w9 w.heap.size v8 (PL ++ [.iface u y]) ∧ PieD w9 B (PL ++ [.iface u y]) (P ++ [e])) := ⟨owns_below HO8.out.1 b9, HO8.out.2.below b9⟩; clear HT8 HO8))
      go_roundw
      case rel => exact ⟨_, _, _, _, rfl, by omega, by omega, HT9, HO9.out⟩
      case measure => simp [RowKit.intOf]; omega
    · have hm : m = 0 := by omega
      subst hm
      go_wp2
      go_ret
      exact ⟨_, rfl, P, ⟨R', HT.out⟩, PL, HO.out⟩
end Go.Proofs.YthfpmhnnjjikcabGreatDoor

/- A delta of a list made canonical. -/
namespace Go.Proofs.YthfpmhnnjjikcabGreatDoor
open Go Go.RowKit Go.Lib
set_option linter.unusedVariables false
theorem dle_of {w' : World} {C1 C2 : Nat} {dv : Value} {L : List Op5} (hd : DelV w' C1 C2 dv (canonL L)) (hg : ∀ o ∈ L, opE o = 0) (hfit : ∀ o ∈ L, FitA o) (hlen : L.length ≤ 2097152) (ht : txtS L ≤ 4194304) (hf : Fits8 L) : DlE w' C1 C2 dv (canonL L) ∧ (canonL L).length ≤ L.length ∧ txtS (canonL L) ≤ txtS L := by
  obtain ⟨k1, k2, k3⟩ := canon_ok (E := L) ⟨hg, hfit, by omega, by omega, hf.1, hf.2⟩
  exact ⟨⟨hd, k1.good, k1.fit, by omega, by omega, k1.base, k1.res⟩, by omega, by omega⟩
end Go.Proofs.YthfpmhnnjjikcabGreatDoor

/- measure: Slice. -/
namespace Go.Proofs.YthfpmhnnjjikcabGreatDoor
open Go Go.RowKit Go.Lib
set_option linter.unusedVariables false
theorem Hid.mk7' {P : Prop} (h : P) : Hid P := h
/-- Nothing but inserts. -/
def InsU (U : List U6) : Prop := ∃ l : List C5, U = l.map .ins
theorem insU_of : ∀ {U : List U6}, baseU U = 0 → InsU U
  | [], _ => ⟨[], rfl⟩
  | .ins c :: U, h => by
    have h2 : baseU U = 0 := by unfold baseU at h ⊢; simpa using h
    obtain ⟨l, hl⟩ := insU_of h2
    exact ⟨c :: l, by rw [hl]; rfl⟩
  | .keep A :: U, h => by unfold baseU at h; simp at h
  | .del :: U, h => by unfold baseU at h; simp at h
theorem InsU.append {U V : List U6} (h : InsU (U ++ V)) : InsU U ∧ InsU V := by
  obtain ⟨l, hl⟩ := h
  refine ⟨⟨l.take U.length, ?_⟩, ⟨l.drop U.length, ?_⟩⟩
  · have := congrArg (List.take U.length) hl
    rw [List.take_left, ← List.map_take] at this
    exact this
  · have := congrArg (List.drop U.length) hl
    rw [List.drop_left, ← List.map_drop] at this
    exact this
theorem InsU.nrm {U : List U6} (h : InsU U) : stripU (nrm [] 0 U) = U := by
  obtain ⟨l, rfl⟩ := h
  rw [nrm_ins0, strip_ins]
theorem InsU.sums {U : List U6} (h : InsU U) : baseU U = 0 ∧ resU U = U.length := by
  obtain ⟨l, rfl⟩ := h
  unfold baseU resU
  constructor
  · rw [countP_none]; intro u hu; obtain ⟨c, _, rfl⟩ := List.mem_map.1 hu; rfl
  · rw [countP_all]; intro u hu; obtain ⟨c, _, rfl⟩ := List.mem_map.1 hu; rfl
/-- What Slice answers. -/
def SlR (a : Nat → Addr) (w' : World) (E : List Op5) (i j : Int) (dv er : Value) : Prop :=
  (0 < sumB E → dv = .pointer none ∧ er = errV a 8) ∧
  (sumB E = 0 → (i < 0 ∨ j < i ∨ sumR E < j) → dv = .pointer none ∧ er = errV a 11) ∧
  (sumB E = 0 → ¬ (i < 0 ∨ j < i ∨ sumR E < j) → er = .nilIface ∧ ∃ L C1 C2, DlE w' C1 C2 dv L ∧ CanO L ∧ units L = ((units E).drop i.toNat).take (j - i).toNat ∧ L.length ≤ E.length + 1 ∧ txtS L ≤ 2 * txtS E)
set_option maxHeartbeats 4000000 in
set_option maxRecDepth 100000 in
theorem slice8_any {I : List Nat} {a : Nat → Addr} {B1 B2 : Nat} (v : Value) (E : List Op5) (i j : Int) (w : World) (hI : ∀ i ∈ IxO, i ∈ I) (h11 : 11 ∈ I) (hS : Std I a w) (hE : DlE w B1 B2 v E) (hc : CanO E) (hl : E.length + 1 ≤ 2097152) (ht : txtS E ≤ 2097152) (hi : -9223372036854775808 ≤ i ∧ i ≤ 9223372036854775807) (hj : -9223372036854775808 ≤ j ∧ j ≤ 9223372036854775807) :
    Calls Tryz.prog 51 #[v, .int .i64 i, .int .i64 j] w fun r w' => ∃ dv er, r = .returned (.tuple #[dv, er]) ∧ SlR a w' E i j dv er ∧ Below w.heap.size w w' := by
  have c1 := count_any8 v E w hE
  have hs := hE.sums
  have cB := fun W => cbase_any (sumK8 E) (sumI8 E) (sumD8 E) W ⟨hs.1, hs.2.2.1⟩
  have cR := fun W => cresult_any (sumK8 E) (sumI8 E) (sumD8 E) W ⟨hs.1, hs.2.1⟩
  rw [← hs.2.2.2.1] at cB
  rw [← hs.2.2.2.2] at cR
  have gO : w.cell? ⟨0, 0, none⟩ = some (errV a 8) := hS.er.cell 8 (hI 8 (by decide))
  have gR : w.cell? ⟨1, 0, none⟩ = some (errV a 11) := hS.er.cell 11 h11
  obtain ⟨q1, pv1, PL1, rfl, _⟩ := id hE.d
  have HE : Hid (DlE w B1 B2 (.pointer (some ⟨q1, 0, none⟩)) E ∧ CanO E ∧ E.length + 1 ≤ 2097152 ∧ txtS E ≤ 2097152 ∧ Std I a w) := ⟨hE, hc, hl, ht, hS⟩
  have hnn := sums_nn hE.wel
  have hff := hE.fits
  unfold Fits8 at hff
  obtain ⟨B, hB⟩ : ∃ x, sumB E = x := ⟨_, rfl⟩
  obtain ⟨R, hR⟩ : ∃ x, sumR E = x := ⟨_, rfl⟩
  obtain ⟨K, hK⟩ : ∃ x, sumK8 E = x := ⟨_, rfl⟩
  obtain ⟨J, hJ⟩ : ∃ x, sumI8 E = x := ⟨_, rfl⟩
  obtain ⟨D, hD⟩ : ∃ x, sumD8 E = x := ⟨_, rfl⟩
  have HB : Hid (sumB E = B ∧ sumR E = R) := ⟨hB, hR⟩
  rw [hB, hR] at hnn hff
  simp only [hK, hJ, hD] at c1
  simp only [hK, hJ, hD, hB] at cB
  simp only [hK, hJ, hD, hR] at cR
  unfold cnt8 at c1 cB cR
  have HI : Hid (∀ i ∈ IxO, i ∈ I) := hI
  clear hE hs hc hl ht hS hB hR hK hJ hD hI
  go_enter Tryz.func51, Tryz.ntmps51
  go_wp2_with fail
  refine c1.mono ?_; rintro r w2 ⟨rfl, b2⟩
  have c2 := cB (w2.alloc (.cells #[.int .i64 K, .int .i64 J, .int .i64 D] 144))
  have ba : Below w2.heap.size w2 (w2.alloc (.cells #[.int .i64 K, .int .i64 J, .int .i64 D] 144)) := (Below.refl _ _).alloc (Nat.le_refl _) _
  have b3 := b2.trans (ba.mono b2.size)
  have hx := heap_alloc_new w2 (.cells #[.int .i64 K, .int .i64 J, .int .i64 D] 144)
  obtain ⟨X, hX⟩ : ∃ X, w2.heap.size = X := ⟨_, rfl⟩
  go_wp2_with fail
  refine c2.mono ?_; rintro r w4 ⟨rfl, b4⟩
  have hx4 := heap_below b4 hx
  have k0 : w4.cell? ⟨w2.heap.size, 0, none⟩ = some (.int .i64 K) := by rw [cell_of_heap hx4]; rfl
  have k1 : w4.cell? ⟨w2.heap.size, 1, none⟩ = some (.int .i64 J) := by rw [cell_of_heap hx4]; rfl
  have k2 : w4.cell? ⟨w2.heap.size, 2, none⟩ = some (.int .i64 D) := by rw [cell_of_heap hx4]; rfl
  rw [hX] at k0 k1 k2
  have hb4 := b3.trans (b4.mono b3.size)
  have g4 := (hb4.cell (lt_of_cell gO)).trans gO
  have g5 := (hb4.cell (lt_of_cell gR)).trans gR
  clear c1 c2 cB b2 ba b3 b4 hx hx4 gO gR
  by_cases hB0 : 0 < B
  · have hB1 : B > 0 := hB0
    have HR : Hid (∀ W, SlR a W E i j (.pointer none) (errV a 8)) := fun W => ⟨fun _ => ⟨rfl, rfl⟩, fun h => (by have := HB.out.1; omega), fun h => (by have := HB.out.1; omega)⟩
    clear HE cR k0 k1 k2 g5
    go_wp2
    go_quiet (fail)
    go_wp2
    go_ret2
    exact ⟨_, _, rfl, HR.out _, below_drewN hb4 _⟩
  have hB1 : ¬ B > 0 := by omega
  have hBz : B = 0 := by omega
  by_cases hbad : i < 0 ∨ j < i ∨ R < j
  · have HR : Hid (∀ W, SlR a W E i j (.pointer none) (errV a 11)) := fun W => ⟨fun h => (by have := HB.out.1; omega), fun _ _ => ⟨rfl, rfl⟩, fun _ h => absurd (by have := HB.out.2; omega) h⟩
    by_cases h1 : i < 0
    · clear HE cR k0 k1 k2 g4 hbad
      go_wp2
      go_quiet (fail)
      go_wp2
      go_ret2
      exact ⟨_, _, rfl, HR.out _, below_drewN hb4 _⟩
    by_cases h2 : i > j
    · clear HE cR k0 k1 k2 g4 hbad
      go_wp2
      go_quiet (fail)
      go_wp2
      go_ret2
      exact ⟨_, _, rfl, HR.out _, below_drewN hb4 _⟩
    have h3 : j > R := by omega
    have c3 := cR w4
    clear HE cR g4 hbad
    go_wp2_with fail
    refine c3.mono ?_; rintro r w5 ⟨rfl, b5⟩
    have hb5 := hb4.trans (b5.mono hb4.size)
    have g6 := (b5.cell (lt_of_cell g5)).trans g5
    clear c3 b5 hb4 g5 k0 k1 k2
    go_wp2
    go_quiet (fail)
    go_wp2
    go_ret2
    exact ⟨_, _, rfl, HR.out _, below_drewN hb5 _⟩
  have h1 : ¬ i < 0 := by omega
  have h2 : ¬ i > j := by omega
  have h3 : ¬ j > R := by omega
  have hsub : IntKind.i64.wrap (j - i) = j - i := by rw [IntKind.wrap_i64]; omega
  obtain ⟨n, hn⟩ : ∃ n, j - i = n := ⟨_, rfl⟩
  have hins : InsU (units E) := insU_of (by have := HB.out.1; rw [sumB_units HE.out.1.wel] at this; omega)
  have hlen : ((units E).length : Int) = R := by have := HB.out.2; rw [sumR_units HE.out.1.wel, hins.sums.2] at this; exact this
  have HU : Hid (InsU (units E) ∧ ((units E).length : Int) = R ∧ 0 ≤ i ∧ i ≤ j ∧ j ≤ R ∧ R ≤ 1099511627776 ∧ j - i = n ∧ sumB E = 0) := ⟨hins, hlen, by omega, by omega, by omega, hff.2, hn, by rw [HB.out.1]; exact hBz⟩
  have hRst : Rst E E.length (txtS E) 1048576 := ⟨HE.out.1.g, HE.out.1.fit, Nat.le_refl _, fun o ho => (HE.out.1.fit o ho).n, Nat.le_refl _, HE.out.2.1.chain, HE.out.2.1.last, HE.out.1.fits.1, HE.out.1.fits.2⟩
  have HRst : Hid (Rst E E.length (txtS E) 1048576) := hRst
  have HNT : Hid (E.length ≤ 2097151 ∧ txtS E ≤ 2097152) := ⟨by have := HE.out.2.2.1; omega, HE.out.2.2.2.1⟩
  have c3 := cR w4
  rw [hn] at hsub
  clear cR g4 g5 hbad hins hlen hRst hB0 hBz hnn hff
  go_wp2_with fail
  refine c3.mono ?_; rintro r w5 ⟨rfl, b5⟩
  have hb5 := hb4.trans (b5.mono hb4.size)
  have HE5 := Hid.mk7' (HE.out.1.below hb5)
  have c5 := newW_any _ E w5 HE5.out.d HE5.out.g HE5.out.n (by have := HE5.out.len; omega)
  clear c3 b5 hb4 k0 k1 k2
  go_wp2_with fail
  refine c5.mono ?_; rintro r w6 ⟨q, g, rfl, hw6, hg6, b6⟩
  have hb6 := hb5.trans (b6.mono hb5.size)
  have c6 := take8_any i w6 hw6 hg6 HRst.out (by have := HNT.out; omega) (by decide) (by have := HNT.out; omega) ⟨HU.out.2.2.1, by have := HU.out; omega, by have := HU.out; omega⟩
  have HQ6 : Hid (w5.heap.size ≤ q ∧ w5.heap.size ≤ g ∧ w5.heap.size ≤ w6.heap.size ∧ w.heap.size ≤ w5.heap.size) := ⟨hw6.lq, hw6.lg, b6.size, hb5.size⟩
  have HG6 : Hid (E ≠ [] → g < w6.heap.size) := hg6
  clear c5 hw6 hg6 b6 hb5 HE5
  go_wp2_with fail
  refine c6.mono ?_; rintro r w7 ⟨v7, rfl, P1, R1, T1, PL1, own1, -⟩
  obtain ⟨p7, n7, rfl⟩ := own_slice own1
  have hb7 : Below w.heap.size w w7 := hb6.trans ((T1.fr.below HQ6.out.1 HQ6.out.2.1 HQ6.out.2.2.1).mono HQ6.out.2.2.2)
  have hu1 := T1.un
  have hl1 := T1.len
  have hR1 : units R1 = (units E).drop i.toNat := by
    rw [hu1, show i.toNat = (units P1).length by omega, List.drop_left]
  have hlR1 : n ≤ ((units R1).length : Int) := by
    rw [hR1, List.length_drop]
    have := HU.out
    omega
  have c7 := take8_any n w7 T1.wk (fun h => by have := HG6.out (T1.ne h); have := T1.fr.size; omega) T1.rst (by have := HNT.out; omega) (by decide) (by have := HNT.out; omega) ⟨by have := HU.out; omega, hlR1, by have := HU.out; omega⟩
  have HT1 : Hid (units R1 = (units E).drop i.toNat ∧ Rst R1 E.length (txtS E) 1048576 ∧ w6.heap.size ≤ w7.heap.size) := ⟨hR1, T1.rst, T1.fr.size⟩
  obtain ⟨m7, hm7⟩ : ∃ m, PL1.length = m := ⟨_, rfl⟩
  rw [hm7]
  clear c6 own1 hu1 hl1 hR1 hlR1 T1 hb6 hm7 HG6
  go_wp2_with fail
  refine c7.mono ?_; rintro r w8 ⟨v8, rfl, P2, R2, T2, PL2, own2, pie2⟩
  have hb8 : Below w.heap.size w w8 := hb7.trans ((T2.fr.below HQ6.out.1 HQ6.out.2.1 (Nat.le_trans HQ6.out.2.2.1 HT1.out.2.2)).mono HQ6.out.2.2.2)
  have hu2 := T2.un
  have hl2 := T2.len
  have hP2 : units P2 = ((units E).drop i.toNat).take (j - i).toNat := by
    rw [← HT1.out.1, hu2, HU.out.2.2.2.2.2.2.1, show n.toNat = (units P2).length by omega, List.take_left]
  have hiU : InsU (units P2) := by
    have h := HU.out.1
    rw [← List.take_append_drop i.toNat (units E), ← HT1.out.1, hu2] at h
    exact h.append.2.append.1
  have hg2 : ∀ o ∈ P2, opE o = 0 := fun o ho => (T2.good o ho).1
  have hw2 : ∀ o ∈ P2, Wel o := fun o ho => wel_of (hg2 o ho)
  have hfit : Fits8 P2 := by
    unfold Fits8
    rw [sumB_units hw2, sumR_units hw2, hiU.sums.1, hiU.sums.2]
    have := HU.out
    omega
  have hln0 : P2.length ≤ E.length + 1 := by have := T2.cnt; have := HT1.out.2.1.len; omega
  have htx0 : txtS P2 ≤ 2 * txtS E := by have := T2.cnt; have := HT1.out.2.1.txt; omega
  have hln : P2.length ≤ 2097152 := by have := HNT.out; omega
  have htx : txtS P2 ≤ 4194304 := by have := HNT.out; omega
  have HS8 := HE.out.2.2.2.2.below hb8
  have c8 := gath8_any v8 PL2 P2 w8 HI.out HS8 own2 pie2 hg2 (fun o ho => (T2.good o ho).2) hln (by omega)
  have HR : Hid (∀ W' C1 C2 dv, DelV W' C1 C2 dv (canonL P2) → SlR a W' E i j dv .nilIface) := fun W' C1 C2 dv hd => ⟨fun h => (by have := HU.out; omega), fun _ h => absurd h (by have := HU.out; have := HB.out; omega), fun _ _ => ⟨rfl, canonL P2, C1, C2, (dle_of hd hg2 (fun o ho => (T2.good o ho).2) hln htx hfit).1, .of hw2, by
    obtain ⟨_, _, _, h⟩ := canon_spec hw2
    rw [h, hiU.nrm, hP2], by have := (dle_of hd hg2 (fun o ho => (T2.good o ho).2) hln htx hfit).2.1; omega, by have := (dle_of hd hg2 (fun o ho => (T2.good o ho).2) hln htx hfit).2.2; omega⟩⟩
  have HFit : Hid (Fits8 P2) := hfit
  obtain ⟨p8, n8, rfl⟩ := own_slice own2
  obtain ⟨m8, hm8⟩ : ∃ m, PL2.length = m := ⟨_, rfl⟩
  rw [hm8] at c8 ⊢
  clear c7 own2 pie2 hu2 hl2 hP2 hiU hg2 hw2 hfit hln htx hln0 htx0 HS8 hb7 T2 hm8
  go_wp2_with fail
  refine c8.mono ?_; rintro r w9 ⟨dv, er, rfl, y1, -, b9⟩
  obtain ⟨rfl, hd⟩ := y1 HFit.out
  have HR9 := Hid.mk7' (HR.out _ _ _ _ hd)
  obtain ⟨q9, pv9, PL9, rfl, _⟩ := id hd
  have hb9 := hb8.trans (b9.mono hb8.size)
  clear c8 y1 hd b9 hb8 HR
  go_wp2
  go_ret2
  exact ⟨_, _, rfl, HR9.out, hb9⟩
end Go.Proofs.YthfpmhnnjjikcabGreatDoor

/- cells.At. -/
namespace Go.Proofs.YthfpmhnnjjikcabGreatDoor
open Go Go.RowKit Go.Lib Go.Shelf
set_option linter.unusedVariables false
/-- A slice of one cell of a document. -/
theorem one_cell9 {E L : List Op5} {k : Nat} {c : C5} (hw : ∀ o ∈ E, Wel o) (hd : DocL E) (hL : ∀ o ∈ L, Wel o) (hc : (cellsL E)[k]? = some c) (hu : units L = ((units E).drop k).take 1) : cellsL L = [c] ∧ sumB L = 0 ∧ sumR L = 1 := by
  have h1 : units L = [c].map .ins := by
    rw [hu, units_doc hd, ← List.map_drop, ← List.map_take]
    congr 1
    obtain ⟨hk, rfl⟩ := List.getElem?_eq_some_iff.1 hc
    rw [List.drop_eq_getElem_cons hk, List.take_succ_cons, List.take_zero]
  have hdl := wel_doc hL h1
  refine ⟨ins_map_inj (by rw [← units_doc hdl, h1]), ?_, ?_⟩
  · rw [sumB_units hL, h1]; rfl
  · rw [sumR_units hL, h1]; rfl
set_option maxHeartbeats 4000000 in
set_option maxRecDepth 100000 in
theorem at9_yes {B1 B2 : Nat} {I : List Nat} {a : Nat → Addr} (v : Value) (E : List Op5) (k : Nat) (c : C5) (w : World) (hI : ∀ i ∈ IxO, i ∈ I) (h11 : 11 ∈ I) (hS : Std I a w) (hE : DlE w B1 B2 v E) (hc : CanO E) (hl : E.length + 1 ≤ 2097152) (ht : txtS E ≤ 2097152) (h0 : sumB E = 0) (hd : DocL E) (hk : (cellsL E)[k]? = some c) (hkr : (k : Int) < sumR E) :
    Calls Tryz.prog 13 #[v, .int .i64 k] w fun r w' => ∃ d : CV, r = .returned (.tuple #[ceV d, .nilIface]) ∧ (d.1 = c.1 ∧ d.2.1 = c.2.1 ∧ d.2.2.1 = c.2.2.1 ∧ OwnA w' w.heap.size (slV d.2.2.2) c.2.2.2) ∧ Below w.heap.size w w' := by
  have bA : Below w.heap.size w (w.alloc (.cells #[.int .i32 0, .string ⟨#[]⟩, .int .i64 0, .int .i64 0, .string ⟨#[]⟩, .slice none 0 0] 39)) := (Below.refl _ _).alloc (Nat.le_refl _) _
  have hsm := hE.sums
  have hk40 : (k : Int) < 1099511627776 := by have := hE.fits; unfold Fits8 at this; omega
  have hz : IntKind.i64.wrap ((k : Int) + 1) = k + 1 := by rw [IntKind.wrap_i64]; omega
  have c1 := slice8_any v E k (k + 1) _ hI h11 (hS.below bA) (hE.below bA) hc hl ht (by omega) (by omega)
  have hn := heap_alloc_new w (.cells #[.int .i32 0, .string ⟨#[]⟩, .int .i64 0, .int .i64 0, .string ⟨#[]⟩, .slice none 0 0] 39)
  have HO : Hid (∀ L : List Op5, (∀ o ∈ L, Wel o) → units L = ((units E).drop k).take 1 → cellsL L = [c] ∧ sumB L = 0 ∧ sumR L = 1) := fun L h1 h2 => one_cell9 hE.wel hd h1 hk h2
  have HX : Hid (sumB E = 0 ∧ ¬ ((k : Int) < 0 ∨ (k : Int) + 1 < k ∨ sumR E < k + 1)) := ⟨h0, by omega⟩
  obtain ⟨q, rfl⟩ : ∃ q, v = .pointer (some ⟨q, 0, none⟩) := by obtain ⟨q, _, _, e, _⟩ := hE.d; exact ⟨q, e⟩
  clear hE hc hl ht hsm hI h11 hS h0 hd hk hkr hk40
  go_enter Tryz.func13, Tryz.ntmps13
  go_wp2_with fail
  refine c1.mono ?_; rintro r w1 ⟨dv, er, rfl, hsl, hb1⟩
  have b1 := bA.trans (hb1.mono bA.size)
  obtain ⟨rfl, L, C1, C2, hdl, hcl, hul, _, _⟩ := hsl.2.2 HX.out.1 HX.out.2
  rw [show ((k : Int) + 1 - k).toNat = 1 by omega, Int.toNat_natCast] at hul
  obtain ⟨g1, g2, g3⟩ := HO.out L hdl.wel hul
  obtain ⟨q1, rfl⟩ : ∃ q, dv = .pointer (some ⟨q, 0, none⟩) := by obtain ⟨q, _, _, e, _⟩ := hdl.d; exact ⟨q, e⟩
  have c2 := list9_any _ L w1 hdl g2 (by omega) (by rw [g1]; simp)
  rw [g1] at c2
  have HB1 : Hid (Below w.heap.size w w1 ∧ w1.heap[w.heap.size]? = some (.cells #[.int .i32 0, .string ⟨#[]⟩, .int .i64 0, .int .i64 0, .string ⟨#[]⟩, .slice none 0 0] 39 (0, 0))) := ⟨b1, heap_below hb1 hn⟩
  clear hsl hdl hcl hul g1 g2 g3 c1 hn hb1 b1 bA HO HX hz
  go_wp2_with fail
  refine c2.mono ?_; rintro r w2 ⟨lv, rfl, ⟨D, hown, hare⟩, hb2⟩
  obtain ⟨d, rfl⟩ : ∃ d, D = [d] := by
    have := forall2_len hare
    match D, this with
    | [d], _ => exact ⟨d, rfl⟩
  obtain ⟨p, cp, rfl, _, _, hin⟩ := own_rowC hown
  obtain ⟨b, off, rfl, hin2⟩ := hin (by simp)
  obtain ⟨x0, x1, x2, x3, x4, x5⟩ := cellsC_get [d] 0 d rfl
  have c0 := hin2 _ _ x0
  have c1 := hin2 _ _ x1
  have c2' := hin2 _ _ x2
  have c3 := hin2 _ _ x3
  have c4 := hin2 _ _ x4
  have c5 := hin2 _ _ x5
  simp only [Nat.zero_mul, Nat.zero_add, Nat.add_zero] at c0 c1 c2' c3 c4 c5
  have hn2 := heap_below hb2 HB1.out.2
  have HR : Hid ((d.1 = c.1 ∧ d.2.1 = c.2.1 ∧ d.2.2.1 = c.2.2.1 ∧ OwnA w2 w.heap.size (slV d.2.2.2) c.2.2.2) ∧ Below w.heap.size w w2 ∧ w2.heap[w.heap.size]? = some (.cells #[.int .i32 0, .string ⟨#[]⟩, .int .i64 0, .int .i64 0, .string ⟨#[]⟩, .slice none 0 0] 39 (0, 0))) := by
    cases hare with
    | cons h _ => exact ⟨⟨h.1, h.2.1, h.2.2.1, own_weaken h.2.2.2 HB1.out.1.size⟩, HB1.out.1.trans (hb2.mono HB1.out.1.size), hn2⟩
  have e0 : ∀ k, k < 6 → ∃ u, w2.cell? ⟨w.heap.size, k, none⟩ = some u := fun k hk => cell_at hn2 k (by simpa using hk)
  obtain ⟨u0, g0⟩ := e0 0 (by omega)
  obtain ⟨u1, g1⟩ := e0 1 (by omega)
  obtain ⟨u2, g2⟩ := e0 2 (by omega)
  obtain ⟨u3, g3⟩ := e0 3 (by omega)
  obtain ⟨u4, g4⟩ := e0 4 (by omega)
  obtain ⟨u5, g5⟩ := e0 5 (by omega)
  have f0 := frozen_of_heap hn2 0
  have f1 := frozen_of_heap hn2 1
  have f2 := frozen_of_heap hn2 2
  have f3 := frozen_of_heap hn2 3
  have f4 := frozen_of_heap hn2 4
  have f5 := frozen_of_heap hn2 5
  obtain ⟨dk, dt, ⟨dx, dn, du⟩, dp, dl, dcap⟩ := d
  simp only [slV] at c0 c1 c2' c3 c4 c5
  clear e0 hn2 c2 HB1 hb2 hown hare hin hin2 x0 x1 x2 x3 x4 x5
  go_wp2
  refine bodyPost_ret (v := .tuple #[ceV (dk, dt, (dx, dn, du), dp, dl, dcap), .nilIface]) (by simp [results, Tryz.results13, go_sem, g0, g1, g2, g3, g4, g5, ceV, slV]) rfl ⟨_, rfl, ⟨HR.out.1.1, HR.out.1.2.1, HR.out.1.2.2.1, ?_⟩, ?_⟩
  · refine owns_same HR.out.1.2.2.2 fun j hj => ?_
    obtain ⟨_, cur, hcu⟩ := owns_block HR.out.1.2.2.2 j hj
    have hne : j ≠ w.heap.size := fun e => by subst e; rw [HR.out.2.2] at hcu; cases hcu
    have e : ∀ (W : World) (i : Nat) (u : Value), (W.setCell ⟨w.heap.size, i, none⟩ u).heap[j]? = W.heap[j]? := fun W i u => Below.heap_setCell _ _ _ _ hne
    rw [e, e, e, e, e, e]
  · exact (((((HR.out.2.1.setCell (p := ⟨w.heap.size, 0, none⟩) (Nat.le_refl _) _).setCell (p := ⟨w.heap.size, 1, none⟩) (Nat.le_refl _) _).setCell (p := ⟨w.heap.size, 2, none⟩) (Nat.le_refl _) _).setCell (p := ⟨w.heap.size, 3, none⟩) (Nat.le_refl _) _).setCell (p := ⟨w.heap.size, 4, none⟩) (Nat.le_refl _) _).setCell (p := ⟨w.heap.size, 5, none⟩) (Nat.le_refl _) _
end Go.Proofs.YthfpmhnnjjikcabGreatDoor

/- The document's answer: Document and List of any operations. -/
namespace Go.Proofs.YthfpmhnnjjikcabGreatDoor
open Go Go.RowKit Go.Lib
set_option linter.unusedVariables false
/-- Inserts alone? -/
def docB (E : List Op5) : Bool := E.all fun o => decide (o.k = 1 ∨ o.k = 2)
theorem docB_iff {E : List Op5} : docB E = true ↔ DocL E := by
  unfold docB DocL
  rw [List.all_eq_true]
  exact forall₂_congr fun o _ => decide_eq_true_iff
theorem docB_take {E : List Op5} {k : Nat} {e : Op5} (h : docB (E.take k) = true) (he : E[k]? = some e) : docB (E.take (k + 1)) = decide (e.k = 1 ∨ e.k = 2) := by
  unfold docB at *
  rw [List.take_add_one, he, List.all_append, h]
  simp
theorem docB_no {E : List Op5} {k : Nat} {e : Op5} (he : E[k]? = some e) (hk : ¬ (e.k = 1 ∨ e.k = 2)) : docB E = false := by
  cases h : docB E with
  | false => rfl
  | true => exact absurd (docB_iff.1 h e (List.mem_of_getElem? he)) hk
set_option maxHeartbeats 4000000 in
set_option maxRecDepth 100000 in
theorem refDoc6_any (v : Value) (E : List Op5) (w : World) (hv : ReO w v E) (hl : E.length ≤ 4194304) :
    Calls Tryz.prog 20 #[v] w fun r w' => r = .returned (.bool (docB E)) ∧ Below w.heap.size w w' := by
  obtain ⟨DO, ⟨p, cap, rfl, hcap, hnz, hat⟩, hre⟩ := hv
  have hDE := forall2_len hre
  obtain ⟨m, hm⟩ : ∃ m, DO.length = m := ⟨_, rfl⟩
  rw [hm] at hcap ⊢
  have hlm : m ≤ 4194304 := by rw [← hm, hDE]; exact hl
  have HM : Hid (DO.length = m ∧ E.length = m) := ⟨hm, by rw [← hDE, hm]⟩
  have HA : Hid (∀ (j : Nat) (d : OV), DO[j]? = some d → ∃ b off, p = some ⟨b, off, none⟩ ∧ OpAt w b (off + j * 7) d) := hat
  have HE : Hid (ReD w DO E) := hre
  clear hm hDE hl hat hre hnz
  go_enter Tryz.func20, Tryz.ntmps20
  go_wp2
  go_loopw [7] (fun i wr => ∃ (k : Nat), k ≤ m ∧ i = .int .i64 k ∧ Hid (docB (E.take k) = true) ∧ Below w.heap.size w wr) (fun i _ => m - (RowKit.intOf i).toNat)
  case atStart => exact ⟨0, Nat.zero_le _, rfl, by show docB (E.take 0) = true; rfl, Below.refl _ _⟩
  case round =>
    obtain ⟨k, hk, rfl, HD, hbw⟩ := hrel
    by_cases hlt : k < m
    · have hltI : (k : Int) < m := by omega
      obtain ⟨d, hd⟩ : ∃ d, DO[k]? = some d := ⟨_, List.getElem?_eq_getElem (by rw [HM.out.1]; exact hlt)⟩
      obtain ⟨e, he, hr⟩ := forall2_get HE.out k d hd
      obtain ⟨b, off, rfl, hin⟩ := HA.out k d hd
      obtain ⟨c0, c1, c2, c3, c4, c5, c6⟩ := hin.below hbw
      obtain ⟨h1, h2, h3, h4, -⟩ := hr
      have bA := hbw.alloc hbw.size (.cells (opC e (slV d.2.2.2.2)) 74)
      have HT : Hid (docB (E.take (k + 1)) = decide (e.k = 1 ∨ e.k = 2) ∧ (¬ (e.k = 1 ∨ e.k = 2) → docB E = false)) := ⟨docB_take HD.out he, docB_no he⟩
      obtain ⟨dk, dt, ⟨dx, dn, du⟩, dc, sp, sl, sc⟩ := d
      simp only [slV] at c0 c1 c2 c3 c4 c5 c6 h1 h2 h3 h4 bA
      have cI := ins6_any e sp sl sc (wr.alloc (.cells (opC e (.slice sp sl sc)) 74))
      obtain ⟨ek, et, ⟨ex, en, eu⟩, ec, eA⟩ := e
      simp only [Prod.mk.injEq] at h1 h2 h3 h4
      obtain ⟨h3, h5, h6⟩ := h3
      subst h1; subst h2; subst h3; subst h4; subst h5; subst h6
      simp only [opC] at cI bA
      have hsz := hbw.size
      by_cases hq : dk = 1 ∨ dk = 2
      · rw [decide_eq_true hq] at cI
        have HT2 : Hid (docB (E.take (k + 1)) = true) := by have := HT.out.1; rwa [decide_eq_true hq] at this
        clear hin hd he HD HT hbw hq
        go_wp2_with fail
        refine cI.mono ?_; rintro r w5 ⟨rfl, b5⟩
        have b9 := bA.trans (b5.mono bA.size)
        clear cI b5 bA
        go_wp2
        go_roundw
        case rel => exact ⟨k + 1, by omega, by go_num, HT2.out, b9⟩
        case measure => simp [RowKit.intOf]; omega
      · rw [decide_eq_false hq] at cI
        have HF : Hid (docB E = false) := HT.out.2 hq
        clear hin hd he HD HT hbw hq
        go_wp2_with fail
        refine cI.mono ?_; rintro r w5 ⟨rfl, b5⟩
        have b9 := bA.trans (b5.mono bA.size)
        clear cI b5 bA
        go_wp2
        go_ret
        exact ⟨by rw [HF.out]; simp, b9⟩
    · have hltI : ¬ (k : Int) < m := by omega
      have hall : E.take k = E := List.take_of_length_le (by rw [HM.out.2]; omega)
      rw [hall] at HD
      go_wp2
      go_ret
      exact ⟨by rw [HD.out]; simp, hbw⟩
end Go.Proofs.YthfpmhnnjjikcabGreatDoor

/- vellumlaw09.told: what cells.Each tells. -/
namespace Go.Proofs.YthfpmhnnjjikcabGreatDoor
open Go Go.RowKit Go.Lib Go.Shelf
set_option linter.unusedVariables false
attribute [local go_sem] Oper.semAt_some
/-- What told has laid for itself. -/
structure To9 (B3 B4 B5 : Nat) (N : Int) (A : World) : Prop where
  m : A.heap[B3]? = some (.cells #[.int .i64 N] 3 (0, 0))
  r : ∃ u, A.heap[B4]? = some (.cells #[u] 22 (0, 0))
  o : ∃ u, A.heap[B5]? = some (.cells #[u] 4 (0, 0))
theorem To9.tr {B3 B4 B5 B : Nat} {N : Int} {A A' : World} (h : To9 B3 B4 B5 N A) (k : Tr7 (fun t => t = 3) B A A') (h3 : B3 < B) (h4 : B4 < B) (h5 : B5 < B) : To9 B3 B4 B5 N A' := by
  obtain ⟨h1, ⟨u, h2⟩, ⟨z, h6⟩⟩ := h
  exact ⟨k.kept _ _ h1 (.inl h3), ⟨u, k.kept _ _ h2 (.inl h4)⟩, ⟨z, k.kept _ _ h6 (.inl h5)⟩⟩
theorem To9.below {B3 B4 B5 : Nat} {N : Int} {A A' : World} (h : To9 B3 B4 B5 N A) (b : Below A.heap.size A A') : To9 B3 B4 B5 N A' := by
  obtain ⟨h1, ⟨u, h2⟩, ⟨z, h6⟩⟩ := h
  exact ⟨heap_below b h1, ⟨u, heap_below b h2⟩, ⟨z, heap_below b h6⟩⟩
theorem To9.round {E : List Op5} {w A A' : World} {O B3 B4 B5 : Nat} {N : Int} {pre : List EZ} {lv v' : Value} {L : List CV} {d : CV} (t : To9 B3 B4 B5 N A) (h : Li9 E w O pre lv L A) (g : (A.alloc (.cells (ceC d) 39)).grownBy A' lv.ownBlock) (hO : B4 ≠ O) : To9 B3 B4 B5 N (A'.setCell ⟨O, 0, none⟩ v') := by
  obtain ⟨h1, ⟨u, h2⟩, ⟨z, h6⟩⟩ := t
  have ne : ∀ (k : Nat) (o : Obj), A.heap[k]? = some o → (∀ cs, o ≠ .cells cs 22 (0, 0)) → k ≠ O := fun k o hk hn e => by subst e; rw [h.box] at hk; exact hn _ (Option.some.inj hk).symm
  exact ⟨(Below.heap_setCell _ _ _ _ (ne _ _ h1 fun cs e => by cases e)).trans (list_keep h g _ _ h1 fun cs e => by cases e), ⟨u, (Below.heap_setCell _ _ _ _ hO).trans (list_keep h g _ _ h2 fun cs e => by cases e)⟩, ⟨z, (Below.heap_setCell _ _ _ _ (ne _ _ h6 fun cs e => by cases e)).trans (list_keep h g _ _ h6 fun cs e => by cases e)⟩⟩
theorem Li9.set9 {E : List Op5} {w : World} {O : Nat} {pre : List EZ} {lv : Value} {D : List CV} {A : World} (h : Li9 E w O pre lv D A) {g : Nat} {cs : Array Value} {t : TypeId} (hg : A.heap[g]? = some (.cells cs t (0, 0))) (ht : t ≠ 39 ∧ t ≠ 45) (hO : g ≠ O) (hw : w.heap.size ≤ g) (u : Value) : Li9 E w O pre lv D (A.setCell ⟨g, 0, none⟩ u) := by
  have ne : ∀ (k : Nat) (cs' : Array Value) (t' : TypeId), A.heap[k]? = some (.cells cs' t' (0, 0)) → t' ≠ t → k ≠ g := fun k cs' t' hk hn e => by
    subst e; rw [hg] at hk
    simp only [Option.some.injEq, Obj.cells.injEq] at hk
    exact hn hk.2.1.symm
  refine ⟨(Below.heap_setCell _ _ _ _ (Ne.symm hO)).trans h.box, h.len, owns_same h.own fun j hj => ?_, h.are.keep fun j cur hj => ?_, h.below.setCell (p := ⟨g, 0, none⟩) hw u, h.asc, h.mks⟩
  · obtain ⟨_, cur, hc⟩ := owns_block h.own j hj
    exact Below.heap_setCell _ _ _ _ (ne _ _ _ hc (Ne.symm ht.1))
  · exact Below.heap_setCell _ _ _ _ (ne _ _ _ hj (Ne.symm ht.2))
theorem told_leave (A : World) (D B4 B5 : Nat) (tmps : Array Value) (lv : Value) {R : Value → World → Prop} (h4 : tmps[4]? = some (.pointer (some ⟨B4, 0, none⟩))) (h5 : tmps[5]? = some (.pointer (some ⟨B5, 0, none⟩))) (hK : A.heap[D]? = some (.deferred (some []))) (c4 : A.cell? ⟨B4, 0, none⟩ = some lv) (c5 : A.cell? ⟨B5, 0, none⟩ = some (.bool true)) (n4 : B4 ≠ D) (n5 : B5 ≠ D) (h : R lv (A.putObj D (.deferred none))) :
    bodyPostM Fence.wide 15 Tryz.prog Tryz.f14 (fun r w' => ∃ lv, r = .returned (.tuple #[lv, .bool true]) ∧ R lv w') Exit.ret { tmps := tmps, defers := [{ target := .collected D, args := #[] }] } A := by
  have g4 : (A.putObj D (.deferred none)).cell? ⟨B4, 0, none⟩ = some lv := (World.cell?_of_block (a := ⟨B4, 0, none⟩) (World.putObj_heap_other n4)).trans c4
  have g5 : (A.putObj D (.deferred none)).cell? ⟨B5, 0, none⟩ = some (.bool true) := (World.cell?_of_block (a := ⟨B5, 0, none⟩) (World.putObj_heap_other n5)).trans c5
  refine ⟨by simp, .inl ⟨_, _, rfl, run_takeDeferred hK, ?_⟩⟩
  refine ⟨.tuple #[lv, .bool true], ?_, ⟨lv, rfl, h⟩⟩
  simp [results, Tryz.results14, go_sem, h4, h5, g4, g5]
set_option maxHeartbeats 8000000 in
set_option maxRecDepth 100000 in
theorem told9_any {B1 B2 : Nat} (v : Value) (E : List Op5) (N : Nat) (w : World) (h : DlE w B1 B2 v E) (hl : (docC9 E).length ≤ 2097152) (hN : (docC9 E).length ≤ N) (hN2 : N ≤ 4194304) (hbg : (cellsL E).length ≤ 1099511627776) :
    Calls Tryz.prog 14 #[v, .int .i64 N] w fun r w' => ∃ lv, r = .returned (.tuple #[lv, .bool true]) ∧ (∃ D, OwnC w' w.heap.size lv D ∧ AreO w' w.heap.size D (docC9 E) ∧ Asc9 D) ∧ Below w.heap.size w w' := by
  have cE : Hid (∀ W, Below w.heap.size w W → Calls Tryz.prog 50 #[v] W fun r w' => ∃ x, r = .returned (.func (.func 88) #[] #[.pointer (some ⟨x, 0, none⟩)]) ∧ (∃ u, w'.cell? ⟨x, 0, none⟩ = some u ∧ DlE w' B1 B2 u E) ∧ Below W.heap.size W w') := fun W hW => by
    refine (eachC_call v E W (h.d.below hW)).mono ?_
    rintro r w' ⟨x, e, ⟨u, h1, h2⟩, _, h3⟩
    exact ⟨x, e, ⟨u, h1, ⟨h2, h.g, h.fit, h.len, h.txt, h.fits⟩⟩, h3⟩
  obtain ⟨q, rfl⟩ : ∃ q, v = .pointer (some ⟨q, 0, none⟩) := by obtain ⟨q, _, _, e, _⟩ := h.d; exact ⟨q, e⟩
  have HB : Hid ((docC9 E).length ≤ 2097152 ∧ (docC9 E).length ≤ N ∧ N ≤ 4194304 ∧ (cellsL E).length ≤ 1099511627776) := ⟨hl, hN, hN2, hbg⟩
  clear h hl hN hbg
  obtain ⟨O4, hO4⟩ : ∃ x, x = w.heap.size + 1 := ⟨_, rfl⟩
  obtain ⟨O5, hO5⟩ : ∃ x, x = w.heap.size + 1 + 1 := ⟨_, rfl⟩
  obtain ⟨C3, hC3⟩ : ∃ x, x = w.heap.size + 1 + 1 + 1 := ⟨_, rfl⟩
  obtain ⟨O6, hO6⟩ : ∃ x, x = w.heap.size + 1 + 1 + 1 + 1 := ⟨_, rfl⟩
  obtain ⟨W3, hW3⟩ : ∃ W, W = ((((w.alloc (.cells #[.int .i64 N] 3)).alloc (.cells #[.slice none 0 0] 22)).alloc (.cells #[.bool false] 4)).alloc (.cells #[] 39)).alloc (.cells #[.slice (some ⟨C3, 0, none⟩) 0 0] 22) := ⟨_, rfl⟩
  have b3 : Below w.heap.size w W3 := by
    rw [hW3]
    exact (((((Below.refl _ _).alloc (Nat.le_refl _) _).alloc (by simp) _).alloc (by simp <;> omega) _).alloc (by simp <;> omega) _).alloc (by simp <;> omega) _
  have hs3 : W3.heap.size = w.heap.size + 5 := by rw [hW3]; simp
  have hT3 : To9 w.heap.size O4 O5 N W3 := by
    rw [hW3, hO4, hO5]
    refine ⟨?_, ⟨.slice none 0 0, ?_⟩, ⟨.bool false, ?_⟩⟩
    · rw [Below.heap_alloc _ _ _ (by simp <;> omega), Below.heap_alloc _ _ _ (by simp <;> omega), Below.heap_alloc _ _ _ (by simp <;> omega), Below.heap_alloc _ _ _ (by simp)]; exact heap_alloc_new w _
    · rw [Below.heap_alloc _ _ _ (by simp <;> omega), Below.heap_alloc _ _ _ (by simp <;> omega), Below.heap_alloc _ _ _ (by simp)]
      have := heap_alloc_new (w.alloc (.cells #[.int .i64 N] 3)) (.cells #[.slice none 0 0] 22)
      rwa [World.size_alloc] at this
    · rw [Below.heap_alloc _ _ _ (by simp <;> omega), Below.heap_alloc _ _ _ (by simp)]
      have := heap_alloc_new ((w.alloc (.cells #[.int .i64 N] 3)).alloc (.cells #[.slice none 0 0] 22)) (.cells #[.bool false] 4)
      rwa [World.size_alloc, World.size_alloc] at this
  have hO3 : W3.heap[O6]? = some (.cells #[.slice (some ⟨C3, 0, none⟩) 0 0] 22 (0, 0)) := by
    rw [hW3, hO6]
    have := heap_alloc_new ((((w.alloc (.cells #[.int .i64 N] 3)).alloc (.cells #[.slice none 0 0] 22)).alloc (.cells #[.bool false] 4)).alloc (.cells #[] 39)) (.cells #[.slice (some ⟨C3, 0, none⟩) 0 0] 22)
    rwa [World.size_alloc, World.size_alloc, World.size_alloc, World.size_alloc] at this
  have hE3 : OwnC W3 w.heap.size (.slice (some ⟨C3, 0, none⟩) 0 0) [] := by
    rw [hW3]
    have := own_emptyC (((w.alloc (.cells #[.int .i64 N] 3)).alloc (.cells #[.slice none 0 0] 22)).alloc (.cells #[.bool false] 4)) w.heap.size (by simp <;> omega)
    rw [World.size_alloc, World.size_alloc, World.size_alloc, ← hC3] at this
    exact owns_below this ((Below.refl _ _).alloc (Nat.le_refl _) _)
  have c3 := cE.out W3 b3
  have HL3 : Hid (Below w.heap.size w W3 ∧ W3.heap.size = w.heap.size + 5 ∧ To9 w.heap.size O4 O5 N W3 ∧ W3.heap[O6]? = some (.cells #[.slice (some ⟨C3, 0, none⟩) 0 0] 22 (0, 0)) ∧ OwnC W3 w.heap.size (.slice (some ⟨C3, 0, none⟩) 0 0) []) := ⟨b3, hs3, hT3, hO3, hE3⟩
  clear b3 hs3 hT3 hO3 hE3 cE
  refine (callsIn_wide (n := 15)).1 ?_
  refine callsIn_of_wp_marks Tryz.func14 rfl trivial ?_ rfl
  simp only [Tryz.ntmps14, List.size_toArray, List.length_cons, List.length_nil, Nat.reduceAdd, Nat.reduceSub, Array.replicate_succ, Array.replicate_zero, List.push_toArray, List.append_toArray, List.nil_append, List.cons_append]
  rw [wpIn_wide]
  go_upto_region 2 with fail
  rw [← hO6, ← hC3, ← hO5, ← hO4, ← hW3]
  have HZ : Hid (O4 = w.heap.size + 1 ∧ O5 = w.heap.size + 2 ∧ O6 = w.heap.size + 4 ∧ C3 = w.heap.size + 3) := ⟨by omega, by omega, by omega, by omega⟩
  have hnf : ∀ (X9 : Nat) (W : World), (binOp .eql 89 (.func (.func 88) #[] #[.pointer (some ⟨X9, 0, none⟩)]) .nilFunc).run Tryz.prog W = .ok (.bool false) W := fun X9 W => by kernel_rfl
  clear hW3 hO4 hO5 hO6 hC3
  go_wp2_with fail
  refine c3.mono ?_; rintro r w4 ⟨x, rfl, hx, hb4⟩
  have H4 : Hid (Li9 E w O6 [] (.slice (some ⟨C3, 0, none⟩) 0 0) [] w4 ∧ To9 w.heap.size O4 O5 N w4 ∧ (∃ u, w4.cell? ⟨x, 0, none⟩ = some u ∧ DlE w4 B1 B2 u E) ∧ w.heap.size + 5 ≤ w4.heap.size) := by
    obtain ⟨h1, h2, h3, h4, h5⟩ := HL3.out
    exact ⟨⟨heap_below hb4 h4, rfl, owns_below h5 hb4, by rw [List.length_nil, List.take_zero]; exact .nil, h1.trans (hb4.mono h1.size), List.Pairwise.nil, fun d hd => by cases hd⟩, h3.below hb4, hx, by have := hb4.size; omega⟩
  have hn9 := hnf x
  clear c3 hx hb4 HL3 hnf
  go_wp2_with fail
  refine (wpIn_wide (n := 15)).1 ?_
  refine wpIn_rangeFunc_GA (encs := encE9) rfl (by decide) (gf := 88) (lb := #[.pointer (some ⟨x, 0, none⟩)]) rfl trivial (enters_of Tryz.func88 (by kernel_rfl) rfl)
    (eachC_seq E w4 x H4.out.2.2.1 (docC9 E).length ?hbig (by unfold docC9; split <;> rfl) 14 (by decide)) (Below.refl _ _) (fun _ => rfl) (fun pre x A A' h k => h.bk k) (fun pre x A A' B B' k1 h k2 => KE9.bk k1 h k2)
    (fun (pre : List EZ) A => (∃ lv D, Li9 E w O6 pre lv D A) ∧ To9 w.heap.size O4 O5 N A) (fun _ _ _ => False)
    (fun s A A' ⟨⟨lv, D, h⟩, h2⟩ k => ⟨⟨lv, D, h.tr k (by have := H4.out; have := HZ.out; omega) (by have := H4.out; have := HZ.out; omega)⟩, h2.tr k (by have := H4.out; have := HZ.out; omega) (by have := H4.out; have := HZ.out; omega) (by have := H4.out; have := HZ.out; omega)⟩) (fun _ _ _ _ h _ => h) ⟨⟨_, _, H4.out.1⟩, H4.out.2.1⟩
    (fun (_ : List EZ) (z : EZ) (a' : Act) (A : World) => ∃ b, a' = { tmps := #[.pointer (some ⟨q, 0, none⟩), .int .i64 N, undef, .pointer (some ⟨w.heap.size, 0, none⟩), .pointer (some ⟨O4, 0, none⟩), .pointer (some ⟨O5, 0, none⟩), .pointer (some ⟨O6, 0, none⟩), .func (.func 88) #[] #[.pointer (some ⟨x, 0, none⟩)], .int .i64 (z.1 : Nat), .pointer (some ⟨b, 0, none⟩), .slice (some ⟨C3, 0, none⟩) 0 0, .pointer (some ⟨q, 0, none⟩), .func (.func 88) #[] #[.pointer (some ⟨x, 0, none⟩)], .func (.func 88) #[] #[.pointer (some ⟨x, 0, none⟩)], .bool false, undef, .func (.func 88) #[] #[.pointer (some ⟨x, 0, none⟩)], .int .i64 (z.1 : Nat), ceV z.2.1, undef, undef, undef, undef, undef, undef, undef, undef, undef, undef, undef, undef, undef, undef, undef, undef], defers := [] } ∧ A.heap[b]? = some (.cells (ceC z.2.1) 39 (0, 0))) (fun _ _ _ _ _ ⟨b, h1, h2⟩ k => ⟨b, h1, k.cells h2⟩) ?assign ?body ?done ?stop
  case hbig => exact HB.out.2.2.2
  case assign =>
    intro l2 pre z W4 K _ _ hK
    obtain ⟨zi, ⟨zk, zt, ⟨z1, z2, z3⟩, zp, zl, zc⟩, zlo, zhi⟩ := z
    simp only [encE9, ceV, slV]
    gi_wp2
    exact hK _ _ ((Below.refl _ _).alloc (Nat.le_refl _) _) ⟨W4.heap.size, rfl, heap_alloc_new W4 _⟩
  case body =>
    rintro l2 pre z a' A hl2 hrec ⟨⟨lv, L, hli⟩, hto⟩ hG ⟨b, rfl, hb⟩
    obtain ⟨hi0, e, he, g1, g2, g3, g4, g5, g6, g7⟩ := hG
    have hec : (cellsL E)[pre.length]? = some e := by
      unfold docC9 at he
      split at he
      · exact he
      · cases he
    have hlt := (List.getElem?_eq_some_iff.1 he).1
    have hll := hli.len
    obtain ⟨zi, ⟨zk, zt, ⟨z1, z2, z3⟩, zp, zl, zc⟩, zlo, zhi⟩ := z
    simp only at hi0
    obtain ⟨pv, cv, rfl⟩ : ∃ p c, lv = .slice p L.length c := by obtain ⟨p, c, h, _⟩ := own_rowC hli.own; exact ⟨p, c, h⟩
    obtain ⟨ln, hln⟩ : ∃ n, L.length = n := ⟨_, rfl⟩
    rw [hln] at hli
    have hzi : zi = ln := by omega
    subst hzi
    have hln63 : L.length + 1 ≤ 33554432 := by have := HB.out; omega
    have hbase : w.heap.size ≤ (A.alloc (.cells (ceC (zk, zt, (z1, z2, z3), zp, zl, zc)) 39)).heap.size := by have := hli.below.size; rw [World.size_alloc]; omega
    have HM : Hid ((A.alloc (.cells (ceC (zk, zt, (z1, z2, z3), zp, zl, zc)) 39)).heap[A.heap.size]? = some (.cells (ceC (zk, zt, (z1, z2, z3), zp, zl, zc)) 39 (0, 0)) ∧ OwnC (A.alloc (.cells (ceC (zk, zt, (z1, z2, z3), zp, zl, zc)) 39)) w.heap.size (.slice pv zi cv) L) := ⟨heap_alloc_new A _, owns_below hli.own ((Below.refl _ _).alloc (Nat.le_refl _) _)⟩
    have HLI : Hid (Li9 E w O6 pre (.slice pv zi cv) L A ∧ (cellsL E)[pre.length]? = some e ∧ (zk = e.1 ∧ zt = e.2.1 ∧ (z1, z2, z3) = e.2.2.1) ∧ InA A zlo zhi (.slice zp zl zc) e.2.2.2 ∧ w4.heap.size ≤ zlo ∧ ∀ y ∈ pre, y.2.2.2 ≤ zlo) := ⟨hli, hec, ⟨g1, g2, g3⟩, g4, g5, g7⟩
    have HTO : Hid (To9 w.heap.size O4 O5 N A) := hto
    have cO : A.cell? ⟨O6, 0, none⟩ = some (.slice pv zi cv) := by rw [cell_of_heap hli.box]; rfl
    have cM : A.cell? ⟨w.heap.size, 0, none⟩ = some (.int .i64 N) := by rw [cell_of_heap hto.m]; rfl
    have b0 : A.cell? ⟨b, 0, none⟩ = some (.int .i32 zk) := by rw [cell_of_heap hb]; rfl
    have b1 : A.cell? ⟨b, 1, none⟩ = some (.string zt) := by rw [cell_of_heap hb]; rfl
    have b2 : A.cell? ⟨b, 2, none⟩ = some (.int .i64 z1) := by rw [cell_of_heap hb]; rfl
    have b3 : A.cell? ⟨b, 3, none⟩ = some (.int .i64 z2) := by rw [cell_of_heap hb]; rfl
    have b4 : A.cell? ⟨b, 4, none⟩ = some (.string z3) := by rw [cell_of_heap hb]; rfl
    have b5 : A.cell? ⟨b, 5, none⟩ = some (.slice zp zl zc) := by rw [cell_of_heap hb]; rfl
    have k1 : ((zi : Int) != zi) = false := bne_self_eq_false _
    have k2 : ¬ ((zi : Int) > N) := by have := HB.out; omega
    clear hli hto he hec g1 g2 g3 g4 g5 g6 g7 hlt hb hi0 hrec hl2 hll hln
    simp only [ceV, slV]
    gi_wp2_with (gi_at_builtin; refine wpListIn_append_cells rfl (.tmp 30) (.tmp 32) rfl w.heap.size (.slice pv zi cv) L rfl HM.out.2 A.heap.size (zk, zt, (z1, z2, z3), zp, zl, zc) rfl HM.out.1 hln63 hbase ?_; intro v' A' own' gr'; obtain ⟨pw, nw, cw, ev⟩ : ∃ p n c, v' = .slice p n c := (by obtain ⟨p, c, h, _⟩ := own_rowC own'; exact ⟨p, _, c, h⟩); subst ev; have hbox := list_box (d := (zk, zt, (z1, z2, z3), zp, zl, zc)) HLI.out.1 gr'; have cO' : A'.cell? ⟨O6, 0, none⟩ = some (.slice pv zi cv) := (by rw [cell_of_heap hbox]; rfl); have fO' : A'.frozen? ⟨O6, 0, none⟩ = false := frozen_of_heap hbox 0; have HBX : Hid ((OwnC A' w.heap.size (.slice pw nw cw) (L ++ [(zk, zt, (z1, z2, z3), zp, zl, zc)]) ∧ (A.alloc (.cells (ceC (zk, zt, (z1, z2, z3), zp, zl, zc)) 39)).grownBy A' (Value.slice pv zi cv).ownBlock) ∧ A'.heap[O6]? = some (.cells #[.slice pv zi cv] 22 (0, 0))) := ⟨⟨own', gr'⟩, hbox⟩; clear own' gr' hbox cO cM b0 b1 b2 b3 b4 b5 HM)
    have HT9 := HTO.out.round (v' := .slice pw nw cw) HLI.out.1 HBX.out.1.2 (by have := HZ.out; omega)
    obtain ⟨x1, x2, x3⟩ := list_round HLI.out.1 HLI.out.2.1 HLI.out.2.2.1 HLI.out.2.2.2.1 HLI.out.2.2.2.2.1 HLI.out.2.2.2.2.2 HBX.out.1.1 HBX.out.1.2 HBX.out.2 (by have := HZ.out; have := H4.out; omega)
    exact ⟨x1, x2, x3, HT9⟩
  case stop => intro D c pre W _ h; exact h.elim
  case done =>
    rintro D xs A hD hS ⟨⟨lv, L, hli⟩, hto⟩ hK
    have cO : A.cell? ⟨O6, 0, none⟩ = some lv := by rw [cell_of_heap hli.box]; rfl
    obtain ⟨pv, cv, rfl⟩ : ∃ p c, lv = .slice p L.length c := by obtain ⟨p, c, h, _⟩ := own_rowC hli.own; exact ⟨p, c, h⟩
    obtain ⟨ln, hln⟩ : ∃ n, L.length = n := ⟨_, rfl⟩
    rw [hln] at hli cO
    obtain ⟨u4, r4⟩ := hto.r
    obtain ⟨u5, r5⟩ := hto.o
    have c4 : A.cell? ⟨O4, 0, none⟩ = some u4 := by rw [cell_of_heap r4]; rfl
    have c5 : A.cell? ⟨O5, 0, none⟩ = some u5 := by rw [cell_of_heap r5]; rfl
    have f4 := frozen_of_heap r4 0
    have f5 := frozen_of_heap r5 0
    have n45 : ¬ O4 = O5 := by have := HZ.out; omega
    have n54 : ¬ O5 = O4 := by have := HZ.out; omega
    have n46 : ¬ O4 = O6 := by have := HZ.out; omega
    have n64 : ¬ O6 = O4 := by have := HZ.out; omega
    have hall : (cellsL E).take xs.length = docC9 E := by
      unfold docC9 at hS ⊢
      split at hS
      · rename_i h0; rw [if_pos h0]; exact List.take_of_length_le (by omega)
      · rename_i h0; rw [if_neg h0, hS]; rfl
    have HF : Hid (Li9 E w O6 xs (.slice pv ln cv) L A ∧ (cellsL E).take xs.length = docC9 E ∧ w4.heap.size ≤ D) := ⟨hli, hall, hD⟩
    clear hli hall hS hD hto hln
    have HT : Hid ((∃ cs, A.heap[O4]? = some (.cells cs 22 (0, 0))) ∧ ∃ cs, A.heap[O5]? = some (.cells cs 4 (0, 0))) := ⟨⟨_, r4⟩, _, r5⟩
    have hw4 : w.heap.size ≤ O4 ∧ w.heap.size ≤ O5 ∧ O4 < D ∧ O5 < D := by have := HZ.out; have := H4.out; have := HF.out.2.2; omega
    clear r4 r5
    gi_wp2
    go_wp2
    obtain ⟨⟨cs4, r4⟩, cs5, r5⟩ := HT.out
    have h8 := HF.out.1.set9 r4 (by decide) (fun e => n46 e) hw4.1 (.slice pv ln cv)
    have r5' := (Below.heap_setCell A ⟨O4, 0, none⟩ (.slice pv ln cv) O5 n54).trans r5
    have h9 := h8.set9 r5' (by decide) (fun e => by have := HZ.out; omega) hw4.2.1 (.bool true)
    have hK' : ((A.setCell ⟨O4, 0, none⟩ (.slice pv ln cv)).setCell ⟨O5, 0, none⟩ (.bool true)).heap[D]? = some (.deferred (some [])) := (Below.heap_setCell _ _ _ _ (show D ≠ O5 by omega)).trans ((Below.heap_setCell _ _ _ _ (show D ≠ O4 by omega)).trans hK)
    have q4 : ((A.setCell ⟨O4, 0, none⟩ (.slice pv ln cv)).setCell ⟨O5, 0, none⟩ (.bool true)).cell? ⟨O4, 0, none⟩ = some (.slice pv ln cv) := by
      have e1 := heap_set_at A O4 0 (.slice pv ln cv) _ _ _ r4
      have hz : 0 < cs4.size := by rw [cell_of_heap r4] at c4; exact (Array.getElem?_eq_some_iff.1 c4).1
      rw [World.cell?_of_block (a := ⟨O4, 0, none⟩) (w := A.setCell ⟨O4, 0, none⟩ (.slice pv ln cv)) (Below.heap_setCell _ _ _ _ n45), cell_of_heap e1]
      simp [hz]
    have q5 : ((A.setCell ⟨O4, 0, none⟩ (.slice pv ln cv)).setCell ⟨O5, 0, none⟩ (.bool true)).cell? ⟨O5, 0, none⟩ = some (.bool true) := by
      have e1 := heap_set_at (A.setCell ⟨O4, 0, none⟩ (.slice pv ln cv)) O5 0 (.bool true) _ _ _ r5'
      have hz : 0 < cs5.size := by rw [cell_of_heap r5] at c5; exact (Array.getElem?_eq_some_iff.1 c5).1
      rw [cell_of_heap e1]
      simp [hz]
    have h10 := h9.tr (tr7_put9 (T := fun t => t = 3) (o' := .deferred none) hK' (Nat.le_refl _)) (by have := HZ.out; have := HF.out.2.2; have := H4.out; omega) (by omega)
    exact told_leave _ D O4 O5 _ (.slice pv ln cv) rfl rfl hK' q4 q5 (by omega) (by omega) ⟨⟨L, h10.own, by rw [← HF.out.2.1]; exact h10.are, h10.asc⟩, h10.below⟩
end Go.Proofs.YthfpmhnnjjikcabGreatDoor

/- Of all lists of cells vellumlaw09.CellsOwns answers true. -/
namespace Go.Proofs.YthfpmhnnjjikcabGreatDoor
open Go Go.RowKit Go.Lib Go.Shelf
set_option linter.unusedVariables false
set_option maxHeartbeats 16000000 in
set_option maxRecDepth 100000 in
theorem cellsOwns_any {I : List Nat} {a : Nat → Addr} (v : Value) (C : List CV) (A : List C5) (w : World) (hI : ∀ i ∈ IxO, i ∈ I) (h11 : 11 ∈ I) (hS : Std I a w) (row : RowC w v C) (are : Are w C A) (fit : ∀ e ∈ A, FitC e) (len : A.length ≤ 1048576) :
    Calls Tryz.prog 3 #[v] w fun r w' => r = .returned (.bool true) ∧ Below w.heap.size w w' := by
  have cF := lives9_any w hI hS
  have cLa : Hid (∀ W, Below w.heap.size w W → Calls Tryz.prog 9 #[v] W fun r w' => r = .returned (.bool (decide (20000 < larC A))) ∧ Below W.heap.size W w') := fun W hW => large9_any v C A W (row.below hW) (are.below hW) (fun e he => ⟨(fit e he).t, (fit e he).n⟩) len
  have cOf : Hid (txtS (A.map opOf) ≤ 8388608 → ∀ (W : World), Below w.heap.size w W → Calls Tryz.prog 10 #[v] W fun r w' => ∃ dv, r = .returned (.tuple #[dv, .int .i64 (celP A).1, errOf a (celP A).2]) ∧ ((celP A).2 = 0 → DelV w' W.heap.size W.heap.size dv (docOf A)) ∧ ((celP A).2 ≠ 0 → dv = .pointer none) ∧ Below W.heap.size W w') := fun ht W hW => ofC_any v C A W hI (hS.below hW) (row.below hW) (are.below hW) fit len ht
  have cRo : Hid (txtS (A.map opOf) ≤ 8388608 → ∀ (W : World), Below w.heap.size w W → Calls Tryz.prog 11 #[v] W fun r w' => ∃ lv, r = .returned (.tuple #[lv, .int .i64 (celP A).1, .int .i64 (celP A).2]) ∧ ((celP A).2 = 0 → ∃ D', FarO w' W.heap.size lv D' ∧ ReD w D' (docOf A)) ∧ ((celP A).2 ≠ 0 → lv = .slice none 0 0) ∧ Below W.heap.size W w') := fun ht W hW => refOf9_any (w0 := w) v C A W (hS.below hW) hW (row.below hW) are fit len ht
  have HS : Hid ((∀ W, Below w.heap.size w W → Std I a W) ∧ (∀ i ∈ IxO, i ∈ I) ∧ 11 ∈ I) := ⟨fun W hW => hS.below hW, hI, h11⟩
  have HR : Hid (∀ W, Below w.heap.size w W → RowC W v C ∧ Are W C A) := fun W hW => ⟨row.below hW, are.below hW⟩
  have HF : Hid ((∀ e ∈ A, FitC e) ∧ A.length ≤ 1048576) := ⟨fit, len⟩
  have hCA := forall2_len are
  obtain ⟨n, hn⟩ : ∃ n, C.length = n := ⟨_, rfl⟩
  obtain ⟨pl, cl, rfl, hcl, _, hl⟩ := row
  have HL : Hid ((C ≠ [] → ∃ b off, pl = some ⟨b, off, none⟩ ∧ InC w b off C) ∧ C.length = n ∧ A.length = n) := ⟨hl, hn, by rw [← hCA, hn]⟩
  rw [hn] at hcl cLa cOf cRo HR ⊢
  obtain ⟨q, hq⟩ : ∃ q, decide (20000 < larC A) = q := ⟨_, rfl⟩
  rw [hq] at cLa
  have HQ : Hid (decide (20000 < larC A) = q) := hq
  have hnn : n ≤ 1048576 := by rw [← hn, hCA]; exact len
  clear hq hS hI h11 are fit len hl hn hCA
  go_enter Tryz.func3, Tryz.ntmps3
  go_wp2_with fail
  refine cF.mono ?_; rintro r w1 ⟨rfl, hb1⟩
  have c1 := cLa.out _ hb1
  clear cF cLa
  go_wp2_with fail
  refine c1.mono ?_; rintro r w2 ⟨rfl, hb2'⟩
  have hb2 := hb1.trans (hb2'.mono hb1.size)
  clear c1 hb1 hb2'
  cases q with
  | true =>
    go_wp2
    go_ret
    exact ⟨rfl, hb2⟩
  | false =>
    obtain ⟨ht, hl2, hA2⟩ := lightC HQ.out
    have HT : Hid (txtS (A.map opOf) ≤ 80000 ∧ n ≤ 20000 ∧ A.length = n) := ⟨ht, by have := HL.out.2.2; omega, HL.out.2.2⟩
    have c2 := cOf.out (by omega) _ hb2
    obtain ⟨er, her⟩ : ∃ x, (celP A).2 = x := ⟨_, rfl⟩
    obtain ⟨pl', hpl⟩ : ∃ x : Nat, (celP A).1 = x := ⟨_, rfl⟩
    rw [her, hpl] at c2
    have HP : Hid ((celP A).2 = er) := her
    clear cOf HQ ht hl2 hA2 her hpl
    cases er with
    | succ e =>
      obtain ⟨t0, y0, hv0⟩ : ∃ t y, errOf a (e + 1) = .iface t y := ⟨_, _, rfl⟩
      rw [hv0] at c2
      clear hv0
      go_wp2_with fail
      refine c2.mono ?_; rintro r w3 ⟨y, rfl, -, -, hb3⟩
      have hb33 := hb2.trans (hb3.mono hb2.size)
      clear c2
      go_wp2
      go_ret
      exact ⟨rfl, hb33⟩
    | zero =>
      rw [show errOf a 0 = .nilIface from rfl] at c2
      go_wp2_with fail
      refine c2.mono ?_; rintro r w3 ⟨dv, rfl, hd0, -, hb3'⟩
      have hb3 := hb2.trans (hb3'.mono hb2.size)
      have hdel := hd0 (by first | trivial | rfl)
      obtain ⟨qd, rfl⟩ : ∃ qd, dv = .pointer (some ⟨qd, 0, none⟩) := by obtain ⟨q, _, _, e, _⟩ := hdel; exact ⟨q, e⟩
      by_cases hn0 : n = 0
      · subst hn0
        clear c2
        go_wp2
        go_ret
        exact ⟨rfl, hb3⟩
      · have hn0I : ((n : Int) == 0) = false := by rw [beq_eq_false_iff_ne]; omega
        have HN0 : Hid (0 < n) := by show 0 < n; omega
        have hG := celP_zero.1 HP.out
        have hce : celP A = (0, 0) := cel_none hG
        obtain ⟨f1, f2, f3, f4, f5, f6, f7, f8⟩ := doc_facts9 hG HF.out.1 (by have := HT.out; omega) HF.out.2
        have du := doc_units (goodC9 hG)
        have hdoc := (cells_doc (goodC9 hG)).1
        have X3 := Hid.mkh (doc_dle9 hG HF.out.1 (by have := HT.out; omega) HF.out.2 (delV_low hdel (Nat.zero_le _) (Nat.zero_le _)))
        have HE : Hid (((∀ o ∈ docOf A, opE o = 0) ∧ (docOf A).length + 1 ≤ 2097152 ∧ txtS (docOf A) ≤ 2097152 ∧ sumB (docOf A) = 0 ∧ sumR (docOf A) = A.length ∧ cellsL (docOf A) = A ∧ OkR (docOf A)) ∧ DocL (docOf A) ∧ celP A = (0, 0) ∧ CanO (docOf A)) := ⟨⟨f1, by omega, by omega, f5, f6, f7, f8⟩, hdoc, hce, ⟨du.1, du.2.1, du.2.2.1⟩⟩
        have c3 := cRo.out (by have := HT.out; omega) w3 hb3
        rw [HE.out.2.2.1] at c3
        clear c2 hd0 hdel hb3' hG hce f1 f2 f3 f4 f5 f6 f7 f8 hdoc du cRo HP hb2
        go_wp2_with fail
        refine c3.mono ?_; rintro r w4 ⟨wv, rfl, hw1, -, hb4'⟩
        obtain ⟨D', hfar, hreC⟩ := hw1 (by first | trivial | rfl)
        have hb4 := hb3.trans (hb4'.mono hb3.size)
        have X4 := Hid.mkh (X3.out.below hb4')
        have hb4s : Hid (w.heap.size ≤ w4.heap.size) := hb4.size
        have HB4 : Hid (Below w.heap.size w w4) := hb4
        have W4h : Hid (FarO w4 0 wv D' ∧ ReD w D' (docOf A)) := ⟨hfar.weaken (Nat.zero_le _), hreC⟩
        obtain ⟨pw, nw, cw, rfl⟩ : ∃ p n c, wv = .slice p n c := by obtain ⟨p, c, e, _⟩ := hfar; exact ⟨p, _, c, e⟩
        have c4 := list9_asc _ (docOf A) w4 X4.out HE.out.1.2.2.2.1 (by rw [HE.out.1.2.2.2.2.1]; have := HT.out; omega) (by rw [HE.out.1.2.2.2.2.2.1]; have := HT.out; omega)
        rw [HE.out.1.2.2.2.2.2.1] at c4
        clear c3 hw1 hfar hreC hb4' hb3 X3
        go_wp2_with fail
        refine c4.mono ?_; rintro r w5 ⟨va, rfl, ⟨D, oa, ea, asc⟩, hb5'⟩
        have hb5 := hb4.trans (hb5'.mono hb4.size)
        have X5 := Hid.mkh (X4.out.below hb5')
        have hDn : D.length = n := by have := forall2_len ea; have := HT.out; omega
        have A5 : Hid ((OwnC w5 w4.heap.size va D ∧ AreO w5 w4.heap.size D A ∧ Asc9 D) ∧ D.length = n ∧ Below w4.heap.size w4 w5) := ⟨⟨oa, ea, asc⟩, hDn, hb5'⟩
        obtain ⟨ga, ca, rfl⟩ : ∃ g c, va = .slice (some ⟨g, 0, none⟩) n c := by
          rcases oa.2 with ⟨_, h2⟩ | ⟨g', cap', cur, h1, _⟩
          · omega
          · exact ⟨g', cap', by rw [h1, hDn]⟩
        have c5 := list9_asc _ (docOf A) w5 X5.out HE.out.1.2.2.2.1 (by rw [HE.out.1.2.2.2.2.1]; have := HT.out; omega) (by rw [HE.out.1.2.2.2.2.2.1]; have := HT.out; omega)
        rw [HE.out.1.2.2.2.2.2.1] at c5
        clear c4 oa ea asc hDn hb5' hb4
        go_wp2_with fail
        refine c5.mono ?_; rintro r w6 ⟨vb, rfl, ⟨Db, ob, eb, -⟩, hb6'⟩
        have hb6 := hb5.trans (hb6'.mono hb5.size)
        have X6 := Hid.mkh (X5.out.below hb6')
        have hDb : Db.length = n := by have := forall2_len eb; have := HT.out; omega
        obtain ⟨pb, cb, rfl⟩ : ∃ p c, vb = .slice p n c := by obtain ⟨p, c, h, _⟩ := own_rowC ob; rw [hDb] at h; exact ⟨p, c, h⟩
        have A6 : Hid ((OwnC w6 w5.heap.size (.slice pb n cb) Db ∧ AreO w6 w5.heap.size Db A) ∧ Below w5.heap.size w5 w6) := ⟨⟨ob, eb⟩, hb6'⟩
        obtain ⟨e0, he0⟩ : ∃ e, A[0]? = some e := ⟨_, List.getElem?_eq_getElem (by have := HT.out; omega)⟩
        have cAt : Hid (∀ W, Below w.heap.size w W → DlE W 0 0 (.pointer (some ⟨qd, 0, none⟩)) (docOf A) → Calls Tryz.prog 13 #[.pointer (some ⟨qd, 0, none⟩), .int .i64 0] W fun r w' => ∃ d : CV, r = .returned (.tuple #[ceV d, .nilIface]) ∧ (d.1 = e0.1 ∧ d.2.1 = e0.2.1 ∧ d.2.2.1 = e0.2.2.1 ∧ OwnA w' W.heap.size (slV d.2.2.2) e0.2.2.2) ∧ Below W.heap.size W w') := fun W hW X => at9_yes _ (docOf A) 0 e0 W HS.out.2.1 HS.out.2.2 (HS.out.1 W hW) X HE.out.2.2.2 HE.out.1.2.1 HE.out.1.2.2.1 HE.out.1.2.2.2.1 HE.out.2.1 (by rw [HE.out.1.2.2.2.2.2.1]; exact he0) (by rw [HE.out.1.2.2.2.2.1]; have := HT.out; omega)
        have HE0 : Hid (A[0]? = some e0) := he0
        have c6 := cAt.out w6 hb6 X6.out
        clear c5 ob eb hDb hb6' hb5 X5 he0
        go_wp2_with fail
        refine c6.mono ?_; rintro r w7 ⟨dx, rfl, hdx, hb7'⟩
        have bx7 : Below w7.heap.size w7 (w7.alloc (.cells (ceC dx) 39)) := (Below.refl _ _).alloc (Nat.le_refl _) _
        have nx7 := heap_alloc_new w7 (.cells (ceC dx) 39)
        obtain ⟨w7a, hw7a⟩ : ∃ W, w7.alloc (.cells (ceC dx) 39) = W := ⟨_, rfl⟩
        rw [hw7a] at bx7 nx7
        have hb7 := hb6.trans (hb7'.mono hb6.size)
        have hb7a := hb7.trans (bx7.mono hb7.size)
        have X7 := Hid.mkh ((X6.out.below hb7').below bx7)
        have A7 : Hid ((dx.1 = e0.1 ∧ dx.2.1 = e0.2.1 ∧ dx.2.2.1 = e0.2.2.1 ∧ OwnA w7 w6.heap.size (slV dx.2.2.2) e0.2.2.2) ∧ Below w6.heap.size w6 w7 ∧ w7.alloc (.cells (ceC dx) 39) = w7a) := ⟨hdx, hb7', hw7a⟩
        obtain ⟨xk, xt, ⟨xx, xn, xu⟩, xp, xl, xc⟩ := dx
        have c7 := cAt.out w7a hb7a X7.out
        simp only [ceC, ceV, slV] at hw7a ⊢
        clear c6 hdx bx7 nx7 hb7' hb6 X6
        go_wp2_with fail
        (try rw [hw7a])
        clear hw7a
        refine c7.mono ?_; rintro r w8 ⟨dy, rfl, hdy, hb8'⟩
        have by8 : Below w8.heap.size w8 (w8.alloc (.cells (ceC dy) 39)) := (Below.refl _ _).alloc (Nat.le_refl _) _
        obtain ⟨w8a, hw8a⟩ : ∃ W, w8.alloc (.cells (ceC dy) 39) = W := ⟨_, rfl⟩
        rw [hw8a] at by8
        have hb8 := hb7a.trans (hb8'.mono hb7a.size)
        have hb8a := hb8.trans (by8.mono hb8.size)
        have X8 := Hid.mkh ((X7.out.below hb8').below by8)
        have A8 : Hid ((dy.1 = e0.1 ∧ dy.2.1 = e0.2.1 ∧ dy.2.2.1 = e0.2.2.1 ∧ OwnA w8 w7a.heap.size (slV dy.2.2.2) e0.2.2.2) ∧ Below w7a.heap.size w7a w8 ∧ w8.alloc (.cells (ceC dy) 39) = w8a) := ⟨hdy, hb8', hw8a⟩
        obtain ⟨yk, yt, ⟨yx, yn, yu⟩, yp, yl, yc⟩ := dy
        have c8 := told9_any (.pointer (some ⟨qd, 0, none⟩)) (docOf A) n w8a X8.out (by rw [docC9_yes HE.out.1.2.2.2.1, HE.out.1.2.2.2.2.2.1]; have := HT.out; omega) (by rw [docC9_yes HE.out.1.2.2.2.1, HE.out.1.2.2.2.2.2.1]; have := HT.out; omega) (by omega) (by rw [HE.out.1.2.2.2.2.2.1]; have := HT.out; omega)
        rw [docC9_yes HE.out.1.2.2.2.1, HE.out.1.2.2.2.2.2.1] at c8
        simp only [ceC, ceV, slV] at hw8a ⊢
        clear c7 hdy by8 hb8' hb7 hb7a X7 cAt
        go_wp2_with fail
        (try rw [hw8a])
        clear hw8a
        refine c8.mono ?_; rintro r w9 ⟨vc, rfl, ⟨Dc, oc, ec, -⟩, hb9'⟩
        have hb9 := hb8a.trans (hb9'.mono hb8a.size)
        have X9 := Hid.mkh (X8.out.below hb9')
        have hDc : Dc.length = n := by have := forall2_len ec; have := HT.out; omega
        obtain ⟨pc, cc, rfl⟩ : ∃ p c, vc = .slice p n c := by obtain ⟨p, c, h, _⟩ := own_rowC oc; rw [hDc] at h; exact ⟨p, c, h⟩
        have A9 : Hid ((OwnC w9 w8a.heap.size (.slice pc n cc) Dc ∧ AreO w9 w8a.heap.size Dc A) ∧ Below w8a.heap.size w8a w9) := ⟨⟨oc, ec⟩, hb9'⟩
        clear c8 oc ec hDc hb9' hb8 hb8a X8 hn0
        go_wp2_with fail
        have HZ : Hid (w.heap.size ≤ w4.heap.size ∧ w4.heap.size ≤ w5.heap.size ∧ w5.heap.size ≤ w6.heap.size ∧ w6.heap.size ≤ w7.heap.size ∧ w7.heap.size < w7a.heap.size ∧ w7a.heap.size ≤ w8.heap.size ∧ w8.heap.size < w8a.heap.size ∧ w8a.heap.size ≤ w9.heap.size) := by
          have e1 := A7.out.2.2
          have e2 := A8.out.2.2
          have s1 := A5.out.2.2.size
          have s2 := A6.out.2.size
          have s3 := A7.out.2.1.size
          have s4 := A8.out.2.1.size
          have s5 := A9.out.2.size
          refine ⟨hb4s.out, s1, s2, s3, ?_, s4, ?_, s5⟩
          · rw [← e1]; simp
          · rw [← e2]; simp
        have BW : Hid (Below w4.heap.size w4 w9 ∧ Below w5.heap.size w5 w9 ∧ Below w6.heap.size w6 w9 ∧ Below w7.heap.size w7 w9 ∧ Below w7a.heap.size w7a w9 ∧ Below w8.heap.size w8 w9 ∧ Below w8a.heap.size w8a w9) := by
          have h8a := A9.out.2
          have h8 : Below w8.heap.size w8 w9 := by
            have h : Below w8.heap.size w8 w8a := by rw [← A8.out.2.2]; exact (Below.refl _ _).alloc (Nat.le_refl _) _
            exact h.trans (h8a.mono h.size)
          have h7a : Below w7a.heap.size w7a w9 := A8.out.2.1.trans (h8.mono A8.out.2.1.size)
          have h7 : Below w7.heap.size w7 w9 := by
            have h : Below w7.heap.size w7 w7a := by rw [← A7.out.2.2]; exact (Below.refl _ _).alloc (Nat.le_refl _) _
            exact h.trans (h7a.mono h.size)
          have h6 : Below w6.heap.size w6 w9 := A7.out.2.1.trans (h7.mono A7.out.2.1.size)
          have h5 : Below w5.heap.size w5 w9 := A6.out.2.trans (h6.mono A6.out.2.size)
          exact ⟨A5.out.2.2.trans (h5.mono A5.out.2.2.size), h5, h6, h7, h7a, h8, h8a⟩
        have LA : Hid (La9 w4.heap.size w5.heap.size ga D w9 ∧ OwnC w9 w4.heap.size (.slice (some ⟨ga, 0, none⟩) n ca) D ∧ ga < w5.heap.size ∧ w4.heap.size ≤ ga) := by
          obtain ⟨oa, ea, asc⟩ := A5.out.1
          obtain ⟨g1, cur, hcur⟩ := owns_block oa ga rfl
          have hlt := (Array.getElem?_eq_some_iff.1 hcur).1
          refine ⟨⟨fun d hd => ?_, asc, cur, heap_below BW.out.2.1 hcur⟩, owns_below oa BW.out.2.1, hlt, g1⟩
          obtain ⟨k, hk⟩ := List.getElem?_of_mem hd
          obtain ⟨e, he, hr⟩ := forall2_get ea k d hk
          have hin := (InA.new hr.2.2.2).below BW.out.2.1
          refine ⟨AtS.ina hin, ?_⟩
          obtain ⟨q, c, e1, _⟩ := hin.row
          simp only [slV, Value.slice.injEq] at e1
          rw [e1.2.1]
          exact (HF.out.1 e (List.mem_of_getElem? he)).n
        have RD : Hid (∀ (k : Nat) (d : CV), D[k]? = some d → ∀ W : World, W.heap[ga]? = w9.heap[ga]? → W.cell? ⟨ga, k * 6 + 5, none⟩ = some (slV d.2.2.2)) := fun k d hd W hW => by
          have := LA.out.2.1.cells (g := ga) rfl (k * 6 + 5) _ (cellsC_get D k d hd).2.2.2.2.2
          rw [Addr.add_lit, Nat.zero_add] at this
          exact (World.cell?_of_block (a := ⟨ga, k * 6 + 5, none⟩) hW).trans this
        have RC : Hid (∀ (k : Nat) (d' : CV), C[k]? = some d' → ∃ bl ol, pl = some ⟨bl, ol, none⟩ ∧ ∀ W, Below w.heap.size w W → W.cell? ⟨bl, ol + k * 6 + 5, none⟩ = some (slV d'.2.2.2)) := fun k d' hd' => by
          obtain ⟨bl, ol, e, hin'⟩ := HL.out.1 (by intro e; rw [e] at hd'; simp at hd')
          exact ⟨bl, ol, e, fun W hW => by have := (hin'.below hW) _ _ (cellsC_get C k d' hd').2.2.2.2.2; simpa only [← Nat.add_assoc] using this⟩
        have LN : Hid (∀ (k : Nat) (d d' : CV), D[k]? = some d → C[k]? = some d' → d.2.2.2.2.1 = d'.2.2.2.2.1) := fun k d d' hd hd' => by
          obtain ⟨e, he, hr⟩ := forall2_get A5.out.1.2.1 k d hd
          obtain ⟨e', he', hr'⟩ := forall2_get (HR.out w (Below.refl _ _)).2 k d' hd'
          obtain rfl : e' = e := Option.some.inj (he'.symm.trans he)
          obtain ⟨q, c, e1, _⟩ := own_rowA hr.2.2.2
          obtain ⟨q', c', e2, _⟩ := hr'.2.2.2.row
          simp only [slV, Value.slice.injEq] at e1 e2
          rw [e1.2.1, e2.2.1]
        have HB9 : Hid (Below w.heap.size w w9) := hb9
        clear hb9
        go_loopw [101] (fun i wr => ∃ (k : Nat), k ≤ n ∧ i = .int .i64 k ∧ Hid (Ws9 w4.heap.size w5.heap.size ga D k 0 w9 wr)) (fun i _ => n - (RowKit.intOf i).toNat)
        case atStart => exact ⟨0, Nat.zero_le _, rfl, Ws9.start⟩
        case round =>
          obtain ⟨k, hk, rfl, HW⟩ := hrel
          by_cases hlt : k < n
          · have hltI : (k : Int) < n := by omega
            have hk0 : (0 : Int) ≤ (k : Int) := by omega
            obtain ⟨d, hd⟩ : ∃ d, D[k]? = some d := ⟨_, List.getElem?_eq_getElem (by rw [A5.out.2.1]; exact hlt)⟩
            obtain ⟨d', hd'⟩ : ∃ d, C[k]? = some d := ⟨_, List.getElem?_eq_getElem (by rw [HL.out.2.1]; exact hlt)⟩
            have HDK : Hid (D[k]? = some d ∧ C[k]? = some d' ∧ d.2.2.2.2.1 = d'.2.2.2.2.1) := ⟨hd, hd', LN.out k d d' hd hd'⟩
            have c5 := RD.out k d hd wr HW.out.row
            clear hd hd'
            obtain ⟨dk, dt, ⟨dx, dn, du⟩, dp, dl, dcap⟩ := d
            simp only [slV] at c5
            have hdl : dl ≤ 1048576 := (LA.out.1.at' _ (List.mem_of_getElem? HDK.out.1)).2
            go_wp2_with fail
            go_loopw [110] (fun i wi => ∃ (m : Nat), m ≤ dl ∧ i = .int .i64 m ∧ Hid (Ws9 w4.heap.size w5.heap.size ga D k m w9 wi)) (fun i _ => dl - (RowKit.intOf i).toNat)
            case atStart => exact ⟨0, Nat.zero_le _, rfl, HW.out⟩
            case round =>
              obtain ⟨m, hm, rfl, HI⟩ := hrel
              have c6 := RD.out k _ HDK.out.1 _ HI.out.row
              simp only [slV] at c6
              by_cases hlm : m < dl
              · have hlmI : (m : Int) < dl := by omega
                have hm0 : (0 : Int) ≤ (m : Int) := by omega
                obtain ⟨g, cg, cur, hg1, hg2, hg3, hg4, hg5, hg6, hg7⟩ := LA.out.1.block (List.mem_of_getElem? HDK.out.1) (by show 0 < dl; omega)
                simp only [slV, Value.slice.injEq, true_and] at hg1
                obtain ⟨rfl, rfl⟩ := hg1
                obtain ⟨cur', hb, hs⟩ := HI.out.out.shape g cur _ _ hg4 hg3
                obtain ⟨u0, g0⟩ := cell_atv hb (m * 4) (by rw [hs, hg6]; show m * 4 < dcap * 4; have : dl ≤ dcap := hg5; omega)
                have f0 := frozen_of_heap hb (m * 4)
                have HG : Hid (w9.heap[g]? = some (.cells cur 45 (0, 0))) := hg4
                obtain ⟨r, hr⟩ : ∃ r : Nat, r = 97 + k % 20 := ⟨_, rfl⟩
                have hrI : (97 : Int) + (k : Int) % 20 = r := by omega
                have hrb : 97 ≤ r ∧ r ≤ 116 := by omega
                have hwr : IntKind.i32.wrap (r : Int) = r := by rw [IntKind.wrap_i32]; omega
                obtain ⟨tk, htk⟩ : ∃ tk : ByteArray, tk = ⟨(enc r).toArray⟩ := ⟨_, rfl⟩
                have henc : Utf8.encode (r : Int) = tk := by rw [htk]; exact encU_eq (by unfold scal; omega)
                obtain ⟨tx, htx⟩ : ∃ tx : ByteArray, (⟨#[111, 118, 101, 114]⟩ : ByteArray) ++ tk = tx := ⟨_, rfl⟩
                have htz : tk.size ≤ 4 := by
                  rw [htk, enc_size (by unfold scal; omega), enc_len (by unfold scal; omega)]
                  repeat' split
                  all_goals omega
                have HTK : Hid (tx = ovB k) := by
                  show tx = ovB k
                  rw [← htx, htk, hr]; rfl
                clear hg2 hg3 hg4 hg5 hg6 hg7 hb hs HW hr htk
                go_wp2_with fail
                go_roundw
                case rel =>
                  refine ⟨m + 1, by omega, by go_num, ?_⟩
                  rw [HTK.out]
                  exact HI.out.set LA.out.1 HDK.out.1 hlm rfl
                case measure => simp [RowKit.intOf]; omega
              · have hlmI : ¬ (m : Int) < dl := by omega
                obtain rfl : m = dl := by omega
                have HUP : Hid (∀ W, Out w4.heap.size w5.heap.size w9 W → Below w.heap.size w W) := fun W o => HB9.out.trans ((o.below (by have := HZ.out; omega)).mono HZ.out.1)
                obtain ⟨bl, ol, rfl, hbl⟩ := RC.out k d' HDK.out.2.1
                obtain ⟨fk, ft, fz, fp, fl, fcap⟩ := d'
                obtain rfl : m = fl := HDK.out.2.2
                simp only [slV] at hbl
                have HBL : Hid (∀ W, Below w.heap.size w W → W.cell? ⟨bl, ol + k * 6 + 5, none⟩ = some (.slice fp m fcap)) := hbl
                have bA := (Below.refl wr.heap.size wr).alloc (Nat.le_refl _) (.cells #[.string ⟨#[109, 111, 114, 101]⟩, .int .i64 0, .int .i64 0, .string ⟨#[]⟩] 45)
                have hga : ga < wr.heap.size := Nat.lt_of_lt_of_le LA.out.2.2.1 (Nat.le_trans (by have := HZ.out; omega) HI.out.out.size)
                have HA : Hid (Ws9 w4.heap.size w5.heap.size ga D (k + 1) 0 w9 (wr.alloc (.cells #[.string ⟨#[109, 111, 114, 101]⟩, .int .i64 0, .int .i64 0, .string ⟨#[]⟩] 45))) := (HI.out.next HDK.out.1).below hga bA
                have hne : ((((m + 1 : Nat) : Int)) != (m : Int) + 1) = false := by rw [Int.natCast_add]; exact bne_self_eq_false _
                clear hbl HW HI bA hga
                go_wp2_with (at_builtin; refine wpList_append_own9 rfl (.tmp 132) (.tmp 134) rfl w4.heap.size w5.heap.size ga k D _ HDK.out.1 LA.out.1 HA.out rfl wr.heap.size 1 qMore rfl ⟨by simp, by simp, by simp, by simp⟩ ?_; intro p' c' w6' hw6; have hbl := HBL.out w6' (HUP.out w6' hw6.out); have HN : Hid (Ws9 w4.heap.size w5.heap.size ga D (k + 1) 0 w9 w6') := hw6; clear hw6 HA)
                go_roundw
                case rel => exact ⟨k + 1, by omega, by go_num, HN.out⟩
                case measure => simp [RowKit.intOf]; omega
          · have hltI : ¬ (k : Int) < n := by omega
            obtain rfl : k = n := by omega
            have HWA : Hid (Ws9 w4.heap.size w5.heap.size ga D k 0 w9 wr) := HW
            clear HW
            go_wp2_with fail
            go_loopw [149] (fun i wi => ∃ (m : Nat), m ≤ k ∧ i = .int .i64 m ∧ wi = wr) (fun i _ => k - (RowKit.intOf i).toNat)
            case atStart => exact ⟨0, Nat.zero_le _, rfl, rfl⟩
            case round =>
              obtain ⟨m, hm, rfl, rfl⟩ := hrel
              by_cases hlm : m < k
              · have hlmI : (m : Int) < k := by omega
                have hm0 : (0 : Int) ≤ (m : Int) := by omega
                obtain ⟨d, hd⟩ : ∃ d, D[m]? = some d := ⟨_, List.getElem?_eq_getElem (by rw [A5.out.2.1]; exact hlm)⟩
                have HDM : Hid (D[m]? = some d) := hd
                have c5 := RD.out m d hd wr HWA.out.row
                clear hd
                obtain ⟨dk, dt, ⟨dx, dn, du⟩, dp, dl, dcap⟩ := d
                simp only [slV] at c5
                have hdl : dl ≤ 1048576 := (LA.out.1.at' _ (List.mem_of_getElem? HDM.out)).2
                obtain ⟨r, hr⟩ : ∃ r : Nat, r = 97 + m % 20 := ⟨_, rfl⟩
                have hrI : (97 : Int) + (m : Int) % 20 = r := by omega
                have hrb : 97 ≤ r ∧ r ≤ 116 := by omega
                have hwr : IntKind.i32.wrap (r : Int) = r := by rw [IntKind.wrap_i32]; omega
                obtain ⟨tk, htk⟩ : ∃ tk : ByteArray, tk = ⟨(enc r).toArray⟩ := ⟨_, rfl⟩
                have henc : Utf8.encode (r : Int) = tk := by rw [htk]; exact encU_eq (by unfold scal; omega)
                obtain ⟨tx, htx⟩ : ∃ tx : ByteArray, (⟨#[111, 118, 101, 114]⟩ : ByteArray) ++ tk = tx := ⟨_, rfl⟩
                have htz : tk.size ≤ 4 := by
                  rw [htk, enc_size (by unfold scal; omega), enc_len (by unfold scal; omega)]
                  repeat' split
                  all_goals omega
                have HTK : Hid (tx = ovB m) := by
                  show tx = ovB m
                  rw [← htx, htk, hr]; rfl
                have hbb : (tx.toList == tx.toList) = true := beq_self_eq_true _
                clear hr htk
                go_wp2_with fail
                go_loopw [158] (fun i wi => ∃ (j : Nat), j ≤ dl ∧ i = .int .i64 j ∧ wi = wr) (fun i _ => dl - (RowKit.intOf i).toNat)
                case atStart => exact ⟨0, Nat.zero_le _, rfl, rfl⟩
                case round =>
                  obtain ⟨j, hj, rfl, rfl⟩ := hrel
                  by_cases hlj : j < dl
                  · have hljI : (j : Int) < dl := by omega
                    have hj0 : (0 : Int) ≤ (j : Int) := by omega
                    obtain ⟨g, cg, cur, hg1, hg2, hg3, hg4, hg5, hg6, hg7⟩ := LA.out.1.block (List.mem_of_getElem? HDM.out) (by show 0 < dl; omega)
                    simp only [slV, Value.slice.injEq, true_and] at hg1
                    obtain ⟨rfl, rfl⟩ := hg1
                    have ck := HWA.out.key m _ j g HDM.out hlj (.inl hlm) rfl
                    rw [← HTK.out] at ck
                    clear hg2 hg3 hg4 hg5 hg6 hg7
                    go_wp2_with fail
                    go_roundw
                    case rel => exact ⟨j + 1, by omega, by go_num, trivial⟩
                    case measure => simp [RowKit.intOf]; omega
                  · have hljI : ¬ (j : Int) < dl := by omega
                    go_wp2_with fail
                    go_roundw
                    case rel => exact ⟨m + 1, by omega, by go_num, trivial⟩
                    case measure => simp [RowKit.intOf]; omega
              · have hlmI : ¬ (m : Int) < k := by omega
                have hw0 := HWA.out.out
                have UP0 : Below w4.heap.size w4 wr := BW.out.1.trans (hw0.below (by have := HZ.out; omega))
                have hbx : wr.heap[w7.heap.size]? = some (.cells (ceC (xk, xt, (xx, xn, xu), xp, xl, xc)) 39 (0, 0)) := by
                  have h1 := heap_alloc_new w7 (.cells (ceC (xk, xt, (xx, xn, xu), xp, xl, xc)) 39)
                  rw [A7.out.2.2] at h1
                  have h2 := heap_below BW.out.2.2.2.2.1 h1
                  exact (hw0.block _ (Array.getElem?_eq_some_iff.1 h2).1 (.inr (by have := HZ.out; omega))).trans h2
                have cx : wr.cell? ⟨w7.heap.size, 5, none⟩ = some (.slice xp xl xc) := by rw [cell_of_heap hbx]; rfl
                have hix : InA wr w6.heap.size w7.heap.size (.slice xp xl xc) e0.2.2.2 := ((InA.new A7.out.1.2.2.2).below BW.out.2.2.2.1).out hw0 (.inr (by have := HZ.out; omega))
                have hxl : xl = e0.2.2.2.length := by
                  obtain ⟨q, c, e1, _⟩ := hix.row
                  simp only [Value.slice.injEq] at e1
                  exact e1.2.1
                have cX := overAttrs_any (.slice xp xl xc) xl w6.heap.size w7.heap.size wr (by have h := LiR.of_own (B := wr.heap.size) hix; rw [← hxl] at h; exact h) (by rw [hxl]; exact (HF.out.1 e0 (List.mem_of_getElem? HE0.out)).n)
                have H0 : Hid (Out w4.heap.size w5.heap.size w9 wr ∧ wr.heap[ga]? = w9.heap[ga]? ∧ Below w4.heap.size w4 wr) := ⟨hw0, HWA.out.row, UP0⟩
                clear hw0 UP0 hbx hix hxl HWA
                go_wp2_with fail
                refine cX.mono ?_; rintro r wA ⟨rfl, oA⟩
                have hce : CeH wA w4.heap.size w5.heap.size (.slice (some ⟨ga, 0, none⟩) k ca) D := by
                  refine ⟨owns_same LA.out.2.1 fun j hj => ?_, fun j hj => by simp only [Value.ownBlock, Option.some.injEq] at hj; rw [← hj]; exact LA.out.2.2.1, fun d hd => ⟨((LA.out.1.at' d hd).1.shape H0.out.1 (Nat.le_refl _)).shape oA (by have := HZ.out; omega), (LA.out.1.at' d hd).2⟩⟩
                  simp only [Value.ownBlock, Option.some.injEq] at hj
                  subst hj
                  obtain ⟨cur, hc⟩ := LA.out.1.row
                  have h1 := H0.out.2.1.trans hc
                  exact ((oA.block _ (Array.getElem?_eq_some_iff.1 h1).1 (.inl (by have := HZ.out; have := LA.out; omega))).trans H0.out.2.1)
                have cB := over9_any (.slice (some ⟨ga, 0, none⟩) k ca) D _ _ wA hce (by rw [A5.out.2.1]; exact hnn)
                have H1 : Hid (Out w6.heap.size w7.heap.size wr wA ∧ Below w4.heap.size w4 wA) := ⟨oA, H0.out.2.2.trans ((oA.below (Nat.le_trans (by have := HZ.out; omega) H0.out.1.size)).mono (by have := HZ.out; omega))⟩
                clear cX oA hce cx
                go_wp2_with fail
                refine cB.mono ?_; rintro r wB ⟨rfl, oB⟩
                have C9 : CeI wB w8a.heap.size w9.heap.size (.slice pc k cc) Dc A := (((CeI.new A9.out.1.1 A9.out.1.2).out H0.out.1 (.inl (by have := HZ.out; omega))).out H1.out.1 (.inl (by have := HZ.out; omega))).out oB (.inl (by have := HZ.out; omega))
                have cC := over9_any (.slice pc k cc) Dc _ _ wB (C9.ceH fun e he => (HF.out.1 e he).n) (by have := forall2_len C9.are; have := HT.out; omega)
                have H2 : Hid (Out w4.heap.size w5.heap.size wA wB ∧ Below w4.heap.size w4 wB) := ⟨oB, H1.out.2.trans (oB.below (Nat.le_trans (by have := HZ.out; omega) H1.out.2.size))⟩
                clear cB oB C9
                go_wp2_with fail
                refine cC.mono ?_; rintro r wC ⟨rfl, oC⟩
                have U4 : Below w4.heap.size w4 wC := H2.out.2.trans ((oC.below (Nat.le_trans (by
                  have h1 := H0.out.1.size
                  have h2 := H1.out.1.size
                  have h3 := H2.out.1.size
                  have := HZ.out
                  omega) (Nat.le_refl _))).mono (by have := HZ.out; omega))
                have hkp : 0 < k := HN0.out
                have UW : Below w.heap.size w wC := HB4.out.trans (U4.mono HB4.out.size)
                have CB : CeI wC w5.heap.size w6.heap.size (.slice pb k cb) Db A := (((((CeI.new A6.out.1.1 A6.out.1.2).below BW.out.2.2.1).out H0.out.1 (.inl (Nat.le_refl _))).out H1.out.1 (.inr (Nat.le_refl _))).out H2.out.1 (.inl (Nat.le_refl _))).out oC (.inr (by have := HZ.out; omega))
                have IY : InA wC w7a.heap.size w8.heap.size (.slice yp yl yc) e0.2.2.2 := (((((InA.new A8.out.1.2.2.2).below BW.out.2.2.2.2.2.1).out H0.out.1 (.inr (by have := HZ.out; omega))).out H1.out.1 (.inr (by have := HZ.out; omega))).out H2.out.1 (.inr (by have := HZ.out; omega))).out oC (.inl (by have := HZ.out; omega))
                have hby : wC.heap[w8.heap.size]? = some (.cells (ceC (yk, yt, (yx, yn, yu), yp, yl, yc)) 39 (0, 0)) := by
                  have h1 := heap_alloc_new w8 (.cells (ceC (yk, yt, (yx, yn, yu), yp, yl, yc)) 39)
                  rw [A8.out.2.2] at h1
                  have h2 := heap_below BW.out.2.2.2.2.2.2 h1
                  have h3 := (H0.out.1.block _ (Array.getElem?_eq_some_iff.1 h2).1 (.inr (by have := HZ.out; omega))).trans h2
                  have h4 := (H1.out.1.block _ (Array.getElem?_eq_some_iff.1 h3).1 (.inr (by have := HZ.out; omega))).trans h3
                  have h5 := (H2.out.1.block _ (Array.getElem?_eq_some_iff.1 h4).1 (.inr (by have := HZ.out; omega))).trans h4
                  exact (oC.block _ (Array.getElem?_eq_some_iff.1 h5).1 (.inl (by have := HZ.out; omega))).trans h5
                obtain ⟨d0, hd0⟩ : ∃ d, C[0]? = some d := ⟨_, List.getElem?_eq_getElem (by rw [HL.out.2.1]; omega)⟩
                obtain ⟨bl, ol, rfl, hin'⟩ := HL.out.1 (by intro e; rw [e] at hd0; simp at hd0)
                obtain ⟨z0', z1, z2, z3, z4, z5⟩ := cellsC_get C 0 d0 hd0
                obtain ⟨e', he', hr'⟩ := forall2_get (HR.out wC UW).2 0 d0 hd0
                obtain rfl : e' = e0 := Option.some.inj (he'.symm.trans HE0.out)
                have q0 := (hin'.below UW) _ _ z0'
                have q1 := (hin'.below UW) _ _ z1
                have q2 := (hin'.below UW) _ _ z2
                have q3 := (hin'.below UW) _ _ z3
                have q4 := (hin'.below UW) _ _ z4
                have q5 := (hin'.below UW) _ _ z5
                simp only [Nat.zero_mul, Nat.zero_add, Nat.add_zero] at q0 q1 q2 q3 q4 q5
                have k1 : ∀ W, Below wC.heap.size wC W → Calls Tryz.prog 17 #[.slice pb k cb, .slice (some ⟨bl, ol, none⟩) k cl] W fun r w' => r = .returned (.bool true) ∧ Below wC.heap.size wC w' := fun W hW => from_below hW (by
                  have h := HR.out W (UW.trans (hW.mono UW.size))
                  have := sameL9_any _ _ Db C A A W ((own_rowC CB.own).below hW) h.1 (CB.areO.are.below hW) h.2 (by have := HT.out; omega) (by have := HT.out; omega) (fun e he => by have := (HF.out.1 e he).n; omega) (fun e he => by have := (HF.out.1 e he).n; omega)
                  rw [decide_eq_true rfl] at this
                  exact this)
                have k2 : ∀ W, Below wC.heap.size wC W → Calls Tryz.prog 18 #[.agg #[.int .i32 yk, .string yt, .int .i64 yx, .int .i64 yn, .string yu, .slice yp yl yc], ceV d0] W fun r w' => r = .returned (.bool true) ∧ Below wC.heap.size wC w' := fun W hW => from_below hW (by
                  have h := sameR9_any e' e' (.slice yp yl yc) (slV d0.2.2.2) W (IY.row.below hW) (hr'.2.2.2.row.below hW) (by have := (HF.out.1 e' (List.mem_of_getElem? he')).n; omega) (by have := (HF.out.1 e' (List.mem_of_getElem? he')).n; omega)
                  rw [decide_eq_true rfl, ← ce_of hr', ← ce_of (d := (yk, yt, (yx, yn, yu), yp, yl, yc)) (w := wC) ⟨A8.out.1.1, A8.out.1.2.1, A8.out.1.2.2.1, own_RN IY.own⟩] at h
                  exact h)
                have k3 : ∀ W, Below wC.heap.size wC W → Calls Tryz.prog 19 #[.pointer (some ⟨qd, 0, none⟩), .slice pw nw cw] W fun r w' => r = .returned (.bool true) ∧ Below wC.heap.size wC w' := fun W hW => from_below hW (by
                  have := is_any _ (.slice pw nw cw) (docOf A) (docOf A) W ((X4.out.d.below U4).below hW) HE.out.1.1 HE.out.1.2.2.2.2.2.2 ⟨D', (W4h.out.1.below (U4.trans (hW.mono U4.size))).row, W4h.out.2.below (UW.trans (hW.mono UW.size))⟩ HE.out.1.2.2.2.2.2.2
                  rwa [decide_eq_true rfl] at this)
                have k4 : ∀ W, Below wC.heap.size wC W → Calls Tryz.prog 20 #[.slice pw nw cw] W fun r w' => r = .returned (.bool true) ∧ Below wC.heap.size wC w' := fun W hW => from_below hW (by
                  have := refDoc6_any (.slice pw nw cw) (docOf A) W ⟨D', (W4h.out.1.below (U4.trans (hW.mono U4.size))).row, W4h.out.2.below (UW.trans (hW.mono UW.size))⟩ (by have := HE.out.1.2.1; omega)
                  rwa [docB_iff.2 HE.out.2.1] at this)
                obtain ⟨fk, ft, ⟨fx, fn, fu⟩, fp, fl, fcap⟩ := d0
                simp only [slV] at q0 q1 q2 q3 q4 q5
                simp only [ceV, slV] at k2
                have HV : Hid (∀ w', Below wC.heap.size wC w' → ((w'.cell? ⟨w8.heap.size, 0, none⟩ = some (.int .i32 yk) ∧ w'.cell? ⟨w8.heap.size, 1, none⟩ = some (.string yt) ∧ w'.cell? ⟨w8.heap.size, 2, none⟩ = some (.int .i64 yx) ∧ w'.cell? ⟨w8.heap.size, 3, none⟩ = some (.int .i64 yn) ∧ w'.cell? ⟨w8.heap.size, 4, none⟩ = some (.string yu) ∧ w'.cell? ⟨w8.heap.size, 5, none⟩ = some (.slice yp yl yc)) ∧ w'.cell? ⟨bl, ol, none⟩ = some (.int .i32 fk) ∧ w'.cell? ⟨bl, ol + 1, none⟩ = some (.string ft) ∧ w'.cell? ⟨bl, ol + 2, none⟩ = some (.int .i64 fx) ∧ w'.cell? ⟨bl, ol + 3, none⟩ = some (.int .i64 fn) ∧ w'.cell? ⟨bl, ol + 4, none⟩ = some (.string fu) ∧ w'.cell? ⟨bl, ol + 5, none⟩ = some (.slice fp fl fcap))) := fun w' hb => by
                  have hy' := heap_below hb hby
                  refine ⟨⟨?_, ?_, ?_, ?_, ?_, ?_⟩, (hb.cell (lt_of_cell q0)).trans q0, (hb.cell (lt_of_cell q1)).trans q1, (hb.cell (lt_of_cell q2)).trans q2, (hb.cell (lt_of_cell q3)).trans q3, (hb.cell (lt_of_cell q4)).trans q4, (hb.cell (lt_of_cell q5)).trans q5⟩ <;> (rw [cell_of_heap hy']; rfl)
                have mD : ((wC.drew.cell? ⟨w8.heap.size, 0, none⟩ = some (.int .i32 yk) ∧ wC.drew.cell? ⟨w8.heap.size, 1, none⟩ = some (.string yt) ∧ wC.drew.cell? ⟨w8.heap.size, 2, none⟩ = some (.int .i64 yx) ∧ wC.drew.cell? ⟨w8.heap.size, 3, none⟩ = some (.int .i64 yn) ∧ wC.drew.cell? ⟨w8.heap.size, 4, none⟩ = some (.string yu) ∧ wC.drew.cell? ⟨w8.heap.size, 5, none⟩ = some (.slice yp yl yc)) ∧ wC.drew.cell? ⟨bl, ol, none⟩ = some (.int .i32 fk) ∧ wC.drew.cell? ⟨bl, ol + 1, none⟩ = some (.string ft) ∧ wC.drew.cell? ⟨bl, ol + 2, none⟩ = some (.int .i64 fx) ∧ wC.drew.cell? ⟨bl, ol + 3, none⟩ = some (.int .i64 fn) ∧ wC.drew.cell? ⟨bl, ol + 4, none⟩ = some (.string fu) ∧ wC.drew.cell? ⟨bl, ol + 5, none⟩ = some (.slice fp fl fcap)) := HV.out _ (Below.refl _ _).drew
                have bD : Below wC.heap.size wC wC.drew := (Below.refl _ _).drew
                have HUW : Hid (Below w.heap.size w wC) := UW
                have hk1 : (0 : Int) < k := by omega
                clear cC U4 UW CB IY hby hin' z0' z1 z2 z3 z4 z5 he' hr' hd0 H0 H1 H2 oC X9 X4 HS HR HF RC RD LN LA A5 A6 A7 A8 A9 W4h HB9 BW HB4
                go_wp2_with fail
                obtain ⟨⟨y0, y1, y2, y3, y4, y5⟩, z0', z1, z2, z3, z4, z5⟩ := HV.out wC (Below.refl _ _)
                clear q0 q1 q2 q3 q4 q5
                go_region_held3 (fun w' => ((w'.cell? ⟨w8.heap.size, 0, none⟩ = some (.int .i32 yk) ∧ w'.cell? ⟨w8.heap.size, 1, none⟩ = some (.string yt) ∧ w'.cell? ⟨w8.heap.size, 2, none⟩ = some (.int .i64 yx) ∧ w'.cell? ⟨w8.heap.size, 3, none⟩ = some (.int .i64 yn) ∧ w'.cell? ⟨w8.heap.size, 4, none⟩ = some (.string yu) ∧ w'.cell? ⟨w8.heap.size, 5, none⟩ = some (.slice yp yl yc)) ∧ w'.cell? ⟨bl, ol, none⟩ = some (.int .i32 fk) ∧ w'.cell? ⟨bl, ol + 1, none⟩ = some (.string ft) ∧ w'.cell? ⟨bl, ol + 2, none⟩ = some (.int .i64 fx) ∧ w'.cell? ⟨bl, ol + 3, none⟩ = some (.int .i64 fn) ∧ w'.cell? ⟨bl, ol + 4, none⟩ = some (.string fu) ∧ w'.cell? ⟨bl, ol + 5, none⟩ = some (.slice fp fl fcap)) ∧ Below wC.heap.size wC w')
                  (exact ⟨by first | (with_reducible assumption) | (simp [*]; done), by first | (with_reducible assumption) | exact (Below.refl _ _).drew⟩)
                  (first
                    | (go_at_call 17; refine (k1 _ ?_).mono ?_; (· first | (with_reducible assumption) | (apply And.right; with_reducible assumption)); rintro r wD ⟨rfl, b3⟩; have mm := HV.out _ b3)
                    | (go_at_call 18; refine (k2 _ ?_).mono ?_; (· first | (with_reducible assumption) | (apply And.right; with_reducible assumption)); rintro r wD ⟨rfl, b3⟩; have mm := HV.out _ b3)
                    | (go_at_call 19; refine (k3 _ ?_).mono ?_; (· first | (with_reducible assumption) | (apply And.right; with_reducible assumption)); rintro r wD ⟨rfl, b3⟩; have mm := HV.out _ b3)
                    | (go_at_call 20; refine (k4 _ ?_).mono ?_; (· first | (with_reducible assumption) | (apply And.right; with_reducible assumption)); rintro r wD ⟨rfl, b3⟩; have mm := HV.out _ b3))
                have b9 := HUW.out.trans (b3.mono HUW.out.size)
                go_wp2
                go_ret
                exact ⟨rfl, b9⟩
abbrev IR9 : List Nat := [0, 4, 5, 6, 7, 8, 9, 10, 11]
theorem cellsOwns_row {I : List Nat} {a : Nat → Addr} (v : Value) (C : List CV) (A : List C5) (w : World) (hI : ∀ i ∈ IR9, i ∈ I) (hS : Std I a w) (row : RowC w v C) (are : Are w C A) (fit : ∀ e ∈ A, FitC e) (len : A.length ≤ 1048576) :
    Calls Tryz.prog 3 #[v] w fun r w' => r = .returned (.bool true) ∧ Below w.heap.size w w' :=
  cellsOwns_any v C A w (fun i hi => hI i ((by decide : ∀ i ∈ IxO, i ∈ IR9) i hi)) (hI 11 (by decide)) hS row are fit len
end Go.Proofs.YthfpmhnnjjikcabGreatDoor
