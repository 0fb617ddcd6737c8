/- vellumref06.Canonical of a list whose lengths sum up to twice what a delta may have (a side's pieces). The document's deltas: Of. The document's deltas: Lengths, Long. The document's deltas: Long. vellumref06.Lengths and Long of well formed operations whose counts may be above the bound. The errors' numbers: what vellumnum.list and vellumnum.Num answer where all nineteen sentinels lie as laid. The document's Deleted, Document, Short, Concat, Shift of layer 8; told. The document's Concat and Shift of layer 8; told. A piece cut in two; a piece taken. What a Walker takes. Next and Rest of a Walker. -/
import Derived.Test.YtalfdjglbbmjcaaGreatDoorMgg
import Derived.Test.YtalfdjglbbmjcaaGreatDoorMgf
import Derived.Test.YtalfdjglbbmjcaaGreatDoorMgd
import Derived.Test.YtalfdjglbbmjcaaGreatDoorEr

/- vellumref06.Canonical of a list whose lengths sum up to twice what a delta may have (a side's pieces). -/
namespace Go.Proofs.YtalfdjglbbmjcaaGreatDoor
open Go Go.RowKit Go.Lib
set_option linter.unusedVariables false

structure OkW (E : List Op5) : Prop where
  good : ∀ o ∈ E, opE o = 0
  fit : ∀ o ∈ E, FitA o
  txt : txtS E ≤ 8388608
  len : E.length ≤ 4194304
  base : sumB E ≤ 2199023255552
theorem OkW.wel {E : List Op5} (h : OkW E) : ∀ o ∈ E, Wel o := fun o ho => wel_of (h.good o ho)
theorem runQ_takeW {E : List Op5} (h : OkW E) : ∀ k, k ≤ E.length → RunQ (E.take k) (runC (E.take k)) := fun k => by
  induction k with
  | zero => intro _; rw [List.take_zero]; exact RunQ.nil
  | succ k ih =>
    intro hk
    have he : E[k]? = some E[k] := List.getElem?_eq_getElem (by omega)
    have hm : E[k] ∈ E := List.getElem_mem _
    rw [List.take_add_one, he, Option.toList_some, runC_snoc]
    exact (ih (by omega)).step (h.wel _ hm) (h.fit _ hm).n
/-- The sizes of the state ahead of the m-th round. -/
theorem stA_qW {E : List Op5} (h : OkW E) {m : Nat} (hm : m ≤ E.length) : (∀ j, PQ (((stA E m).2.1.take j).foldl pushL (stA E m).1) 8388608 2199023255552 4194304) ∧ PQ (flushL (stA E m).1 (stA E m).2.1 (stA E m).2.2) 8388608 2199023255552 4194304 ∧ (∀ o ∈ (stA E m).2.1, Wel o ∧ o.A.length ≤ 1048576 ∧ o.t.size ≤ 8388608 ∧ o.c ≤ 2199023255552) ∧ 0 ≤ (stA E m).2.2 ∧ (stA E m).2.2 ≤ 2199023255552 ∧ (stA E m).2.1.length ≤ 4194304 := by
  rw [stA_at hm]
  have q := runQ_takeW h m hm
  have t1 := txtS_take E m
  have t2 := h.txt
  have t3 := h.len
  have t4 : (E.take m).length ≤ E.length := by rw [List.length_take]; omega
  have t5 : sumB (E.take m) ≤ sumB E := by
    have := sumB_append (E.take m) (E.drop m)
    rw [List.take_append_drop] at this
    have := (sums_nn (E := E.drop m) (fun o ho => h.wel o (List.mem_of_mem_drop ho))).1
    omega
  have t6 := h.base
  obtain ⟨⟨T, S, L, h1, h2, h3, h4⟩, h5, h6⟩ := q
  have hS : 0 ≤ S := by
    have := (sums_nn (E := (runC (E.take m)).1) (fun o ho => (h1.wel o ho).1)).1
    have := h1.sum
    omega
  have q := runQ_takeW h m hm
  refine ⟨fun j => (q.fold j).up (by omega) (by omega) (by omega), (flush_q q).up (by omega) (by omega) (by omega), fun o ho => ?_, h6, by omega, by split at h4 <;> omega⟩
  obtain ⟨⟨a1, a2⟩, a3⟩ := h5 o ho
  have := txtS_mem ho
  refine ⟨a1, a2, by omega, ?_⟩
  rcases a1 with ⟨hi, _⟩ | ⟨b, _⟩ | ⟨b, _⟩
  · rw [hi.count]; omega
  · omega
  · omega
set_option maxHeartbeats 40000000 in
set_option maxRecDepth 100000 in
theorem canonW_any {w0 : World} (va : Value) (D0 : List OV) (E : List Op5) (w : World) (hb0 : Below w0.heap.size w0 w) (hrow : RowO w va D0) (hre : ReD w0 D0 E) (ok : OkW E) :
    Calls Tryz.prog 11 #[va] w fun r w' => ∃ v', r = .returned v' ∧ (∃ D', FarO w' w.heap.size v' D' ∧ ReD w0 D' (canonL E)) ∧ Below w.heap.size w w' := by
  have hDE := forall2_len hre
  obtain ⟨n, hn⟩ : ∃ n, E.length = n := ⟨_, rfl⟩
  obtain ⟨p, cap, rfl, hcap, hnz, hc⟩ := hrow
  have HR : Hid (∀ k, k < n → ∃ (e : Op5) (b off : Nat) (sp : Option Addr) (sl sc : Nat), E[k]? = some e ∧ p = some ⟨b, off, none⟩ ∧ OpAt w b (off + k * 7) (e.k, e.t, e.v, e.c, (sp, sl, sc)) ∧ RN w0 (.slice sp sl sc) e.A) := fun k hk => by
    obtain ⟨d, hd⟩ : ∃ d, D0[k]? = some d := ⟨_, List.getElem?_eq_getElem (by omega)⟩
    obtain ⟨e, he, h1, h2, h3, h4, h5⟩ := forall2_get hre k d hd
    obtain ⟨b, off, hp, hat⟩ := hc k d hd
    obtain ⟨dk, dt, dv, dc, sp, sl, sc⟩ := d
    simp only at h1 h2 h3 h4
    subst h1; subst h2; subst h3; subst h4
    exact ⟨e, b, off, sp, sl, sc, he, hp, hat, h5⟩
  have HN : Hid (E.length = n ∧ OkW E) := ⟨hn, ok⟩
  have hnl : n ≤ 4194304 := by have := ok.len; omega
  rw [hDE, hn] at hcap ⊢
  clear hc hDE hre hnz ok hn
  have hcs : CanS w0 w ((w.alloc (.cells #[] 33)).alloc (.cells #[] 33)) (.slice (some ⟨w.heap.size, 0, none⟩) 0 0) (.slice (some ⟨w.heap.size + 1, 0, none⟩) 0 0) [] [] := by
    have o1 := own_emptyO w w.heap.size (Nat.le_refl _)
    have b1 := (Below.refl w.heap.size w).alloc (Nat.le_refl _) (.cells #[] 33)
    have s1 : (w.alloc (.cells #[] 33)).heap.size = w.heap.size + 1 := by simp
    have o2 := own_emptyO (w.alloc (.cells #[] 33)) w.heap.size (by omega)
    rw [s1] at o2
    refine ⟨⟨[], owns_below o1 ((Below.refl _ _).alloc (Nat.le_refl _) _), .nil⟩, ⟨[], o2, .nil⟩, fun k h1 h2 => ?_, b1.alloc b1.size _, hb0⟩
    have e1 : w.heap.size = k := Option.some.inj h1
    have e2 : w.heap.size + 1 = k := Option.some.inj h2
    omega
  have HS0 : Hid (CanS w0 w ((w.alloc (.cells #[] 33)).alloc (.cells #[] 33)) (.slice (some ⟨w.heap.size, 0, none⟩) 0 0) (.slice (some ⟨w.heap.size + 1, 0, none⟩) 0 0) (stA E 0).1 (stA E 0).2.1) := by
    rw [stA_at (Nat.zero_le _), List.take_zero]; exact hcs
  have hz0 : (0 : Int) = (stA E 0).2.2 := by rw [stA_at (Nat.zero_le _), List.take_zero]; rfl
  clear hcs
  go_enter Tryz.func11, Tryz.ntmps11
  go_wp2
  obtain ⟨W0, hW0⟩ : ∃ W, W = (w.alloc (.cells #[] 33)).alloc (.cells #[] 33) := ⟨_, rfl⟩
  obtain ⟨vo0, hvo0⟩ : ∃ v : Value, v = .slice (some ⟨w.heap.size, 0, none⟩) 0 0 := ⟨_, rfl⟩
  obtain ⟨vg0, hvg0⟩ : ∃ v : Value, v = .slice (some ⟨w.heap.size + 1, 0, none⟩) 0 0 := ⟨_, rfl⟩
  rw [← hW0, ← hvo0, ← hvg0] at HS0
  try rw [← hW0]
  try rw [← hvo0]
  try rw [← hvg0]
  clear hW0 hvo0 hvg0
  go_loopw [3, 4, 5, 6] (fun vo vg g i wr => ∃ (m : Nat), m ≤ n + 1 ∧ i = .int .i64 m ∧ g = .int .i64 (stA E m).2.2 ∧ Hid (CanS w0 w wr vo vg (stA E m).1 (stA E m).2.1)) (fun _ _ _ i _ => n + 1 - (RowKit.intOf i).toNat)
  case atStart => exact ⟨0, Nat.zero_le _, rfl, by rw [← hz0], HS0⟩
  case round =>
    clear HS0 hz0
    obtain ⟨m, hm, rfl, rfl, HS⟩ := hrel
    by_cases hlt : m < n
    · have hltI : (m : Int) < n := by omega
      have hleI : (m : Int) ≤ n := by omega
      have hge0 : (0 : Int) ≤ (m : Int) := by omega
      obtain ⟨e, b, off, sp, sl, sc, he, rfl, hat, hrn⟩ := HR.out m hlt
      obtain ⟨c0, c1, c2, c3, c4, c5, c6⟩ := hat.below HS.out.below
      have how := HN.out.2.wel e (List.mem_of_getElem? he)
      have hA := (HN.out.2.fit e (List.mem_of_getElem? he)).n
      have ht : e.t.size ≤ 8388608 := by have := txtS_mem (List.mem_of_getElem? he); have := HN.out.2.txt; omega
      have hq := stA_qW HN.out.2 (m := m) (by have := HN.out.1; omega)
      have hec : e.c ≤ 2199023255552 := by
        have := HN.out.2.base
        rcases cnt_le HN.out.2.wel (List.mem_of_getElem? he) with h1 | h1 <;> omega
      have HF : Hid (RN w0 (.slice sp sl sc) e.A ∧ Wel e ∧ e.A.length ≤ 1048576 ∧ e.t.size ≤ 8388608 ∧ e.c ≤ 2199023255552) := ⟨hrn, how, hA, ht, hec⟩
      have HQ := Hid.mk' hq
      have cI := ins6_any e sp sl sc wr
      rcases (show (e.k = 1 ∨ e.k = 2) ∨ e.k = 3 ∨ e.k = 4 by rcases how.kinds with h | h | h | h <;> omega) with hk | hk | hk
      · have HNX := Hid.mk' (stA_ins he hk)
        have cI0 : decide (e.k = 1 ∨ e.k = 2) = true := decide_eq_true (by omega)
        rw [cI0] at cI
        have HG : Hid (∀ W, Below wr.heap.size wr W → ∃ D, D.length ≤ 33554432 ∧ OpAt (W.alloc (.cells (opC e (.slice sp sl sc)) 33)) W.heap.size 0 (e.k, e.t, e.v, e.c, (sp, sl, sc)) ∧ OwnO (W.alloc (.cells (opC e (.slice sp sl sc)) 33)) w.heap.size u4 D ∧ w.heap.size ≤ (W.alloc (.cells (opC e (.slice sp sl sc)) 33)).heap.size ∧ ∀ v8 w8, OwnO w8 w.heap.size v8 (D ++ [(e.k, e.t, e.v, e.c, (sp, sl, sc))]) → (W.alloc (.cells (opC e (.slice sp sl sc)) 33)).grownBy w8 u4.ownBlock → (v8.ownBlock = u4.ownBlock ∨ v8.ownBlock = some (W.alloc (.cells (opC e (.slice sp sl sc)) 33)).heap.size) → CanS w0 w w8 u3 v8 (stA E (m + 1)).1 (stA E (m + 1)).2.1) := fun W hW => by
          have h := HS.out.keep hW
          have hk := h.keep ((Below.refl W.heap.size W).alloc (Nat.le_refl _) (.cells (opC e (.slice sp sl sc)) 33))
          obtain ⟨D, d1, d2⟩ := hk.gap
          have hl := forall2_len d2
          have := hq.2.2.2.2.2
          refine ⟨D, by omega, ⟨by simp [opC], by simp [opC], by simp [opC], by simp [opC], by simp [opC], by simp [opC], by simp [opC]⟩, d1, hk.below.size, fun v8 w8 a1 a2 a3 => ?_⟩
          rw [HNX.out]; exact hk.gapped d2 hrn a1 a2 a3
        have H2 : Hid ((stA E (m + 1)).2.2 = (stA E m).2.2) := by show _ = _; rw [HNX.out]
        obtain ⟨g, hg⟩ : ∃ x, (stA E m).2.2 = x := ⟨_, rfl⟩
        rw [hg] at H2 ⊢
        clear cI0 HQ hq hrn how hA ht hec hat he HF HNX HS hg
        obtain ⟨k, t, ⟨xx, nn, u⟩, cc, A⟩ := e
        simp only [slV] at c0 c1 c2 c3 c4 c5 c6 cI
        go_wp2_with fail
        refine cI.mono ?_; rintro r w1 ⟨rfl, hb1⟩
        have d0 := (hb1.cell (lt_of_cell c0)).trans c0
        have d1 := (hb1.cell (lt_of_cell c1)).trans c1
        have d2 := (hb1.cell (lt_of_cell c2)).trans c2
        have d3 := (hb1.cell (lt_of_cell c3)).trans c3
        have d4 := (hb1.cell (lt_of_cell c4)).trans c4
        have d5 := (hb1.cell (lt_of_cell c5)).trans c5
        have d6 := (hb1.cell (lt_of_cell c6)).trans c6
        obtain ⟨D, hD1, hD2, hD3, hD4, hD5⟩ := HG.out w1 hb1
        have HD5 := Hid.mk' hD5
        clear cI HG hD5 c0 c1 c2 c3 c4 c5 c6 hb1
        go_wp2_with (at_builtin; refine wpList_append_ops rfl (.tmp 28) (.tmp 33) rfl w.heap.size u4 D rfl hD3 _ 1 _ rfl hD2 hD1 hD4 ?_; intro v8 w8 own8 gr8 hat8; have HS2 := Hid.mk' (HD5.out v8 w8 own8 gr8 hat8); clear own8 gr8 hat8 HD5 hD1 hD2 hD3 hD4 d0 d1 d2 d3 d4 d5 d6)
        go_roundw
        case rel => exact ⟨m + 1, by omega, by go_num, by rw [H2.out], HS2⟩
        case measure => simp [RowKit.intOf]; omega
      · have HNX := Hid.mk' (stA_ret he hk)
        have cI0 : decide (e.k = 1 ∨ e.k = 2) = false := decide_eq_false (by omega)
        rw [cI0] at cI
        have HBE : Hid (∀ W, Below w.heap.size w W → OpAt W b (off + m * 7) (e.k, e.t, e.v, e.c, (sp, sl, sc))) := fun W hW => hat.below hW
        clear cI0 hq hrn how hA ht hec hat he
        obtain ⟨PO, hPO⟩ : ∃ x, (stA E m).1 = x := ⟨_, rfl⟩
        obtain ⟨PG, hPG⟩ : ∃ x, (stA E m).2.1 = x := ⟨_, rfl⟩
        obtain ⟨g, hg⟩ : ∃ x, (stA E m).2.2 = x := ⟨_, rfl⟩
        rw [hPO, hPG, hg] at HNX HQ
        rw [hPO, hPG] at HS
        rw [hg]
        clear hPO hPG hg
        have hg2 := HQ.out.2.2.2.2.1
        have hg1 := HQ.out.2.2.2.1
        obtain ⟨k, t, ⟨xx, nn, u⟩, cc, A⟩ := e
        simp only [slV] at hk c0 c1 c2 c3 c4 c5 c6 cI HBE
        subst hk
        go_wp2_with fail
        refine cI.mono ?_; rintro r w1 ⟨rfl, hb1⟩
        have c0' := (hb1.cell (lt_of_cell c0)).trans c0
        obtain ⟨pg, cg, rfl⟩ := HS.out.len
        have H1 : Hid (CanS w0 w w1 u3 (.slice pg PG.length cg) PO PG) := HS.out.keep hb1
        obtain ⟨lg, hlg⟩ : ∃ x, PG.length = x := ⟨_, rfl⟩
        have HLG : Hid (PG.length = lg) := hlg
        have hlg4 : lg ≤ 4194304 := by have := HQ.out.2.2.2.2.2; omega
        rw [hlg] at H1 ⊢
        clear hlg cI HS c0 c1 c2 c3 c4 c5 c6 hb1
        go_wp2
        go_loopw [3, 56] (fun vo i wr2 => ∃ (j : Nat), j ≤ lg ∧ i = .int .i64 j ∧ Hid (CanS w0 w wr2 vo (.slice pg lg cg) ((PG.take j).foldl pushL PO) PG)) (fun _ i _ => lg - (RowKit.intOf i).toNat)
        case atStart => exact ⟨0, Nat.zero_le _, rfl, by rw [List.take_zero]; exact H1⟩
        case round =>
          clear H1
          obtain ⟨j, hj, rfl, H1⟩ := hrel
          by_cases hjl : j < lg
          · have hjI : (j : Int) < lg := by omega
            have hj0 : (0 : Int) ≤ (j : Int) := by omega
            obtain ⟨e', gg, sp', sl', sc', he', rfl, hat', hrn'⟩ := H1.out.read j (by rw [HLG.out]; exact hjl)
            obtain ⟨d0, d1, d2, d3, d4, d5, d6⟩ := hat'
            rw [Nat.zero_add] at d0 d1 d2 d3 d4 d5 d6
            have HB := H1.out.keep ((Below.refl wr.heap.size wr).alloc (Nat.le_refl _) (.cells (opC e' (.slice sp' sl' sc')) 33))
            obtain ⟨a1, a2, a3, a4⟩ := HQ.out.2.2.1 e' (List.mem_of_getElem? he')
            have cP := push_can e' sp' sl' sc' HB hrn' (HQ.out.1 j) (Nat.le_refl _) (by decide) (Nat.le_refl _) a1 a2 a3 a4
            have hP2 : pushL ((PG.take j).foldl pushL PO) e' = (PG.take (j + 1)).foldl pushL PO := by rw [List.take_add_one, he', List.foldl_append]; rfl
            rw [hP2] at cP
            clear HB a1 a2 a3 a4 H1 hrn' he' hP2
            obtain ⟨k', t', ⟨x', n', u'⟩, c', A'⟩ := e'
            simp only [opC, slV] at d0 d1 d2 d3 d4 d5 d6 cP
            go_wp2_with fail
            refine cP.mono ?_; rintro r w5 ⟨v5, rfl, h5⟩
            have H5 := Hid.mk' h5
            clear cP d0 d1 d2 d3 d4 d5 d6 h5
            go_wp2
            go_roundw
            case rel => exact ⟨j + 1, by omega, by go_num, H5⟩
            case measure => simp [RowKit.intOf]; omega
          · obtain rfl : j = lg := by omega
            have hjI : ¬ (j : Int) < j := by omega
            have hq1 := HQ.out.1 j
            rw [show PG.take j = PG by have := HLG.out; rw [← this, List.take_length]] at H1 hq1
            by_cases hgp : 0 < g
            · have cP := push_can (delO g) none 0 0 H1.out (RN.nil w0) hq1 (Nat.le_refl _) (by decide) (Nat.le_refl _) (delO_wel (by omega)) (by show (0 : Nat) ≤ _; omega) (by show (0 : Nat) ≤ _; omega) (by show g ≤ _; omega)
              have hfl : pushL (PG.foldl pushL PO) (delO g) = flushL PO PG g := by unfold flushL; rw [if_pos hgp]
              rw [hfl] at cP
              simp only [delO] at cP
              clear hq1 H1 hfl
              go_wp2_with fail
              refine cP.mono ?_; rintro r w5 ⟨v5, rfl, h5⟩
              have H5 := Hid.mk' h5.cleared
              clear cP h5
              obtain ⟨d0, d1, d2, d3, d4, d5, d6⟩ := HBE.out w5 H5.out.below
              have cP := push_can ⟨3, t, (xx, nn, u), cc, A⟩ sp sl sc H5.out HF.out.1 HQ.out.2.1 (Nat.le_refl _) (by decide) (Nat.le_refl _) HF.out.2.1 HF.out.2.2.1 HF.out.2.2.2.1 HF.out.2.2.2.2
              have H2 : Hid ((stA E (m + 1)).2.2 = 0) := by show _ = _; rw [HNX.out]
              have h1 : pushL (flushL PO PG g) ⟨3, t, (xx, nn, u), cc, A⟩ = (stA E (m + 1)).1 := by rw [HNX.out]
              have h2 : ([] : List Op5) = (stA E (m + 1)).2.1 := by rw [HNX.out]
              rw [h1, h2] at cP
              clear H5 h1 h2 HNX HQ HF
              simp only [slV] at d0 d1 d2 d3 d4 d5 d6 cP
              go_wp2_with fail
              refine cP.mono ?_; rintro r w6 ⟨v6, rfl, h6⟩
              have H6 := Hid.mk' h6
              clear cP d0 d1 d2 d3 d4 d5 d6 h6
              go_wp2
              go_roundw
              case rel => exact ⟨m + 1, by omega, by go_num, by rw [H2.out], H6⟩
              case measure => simp [RowKit.intOf]; omega
            · have hfl : PG.foldl pushL PO = flushL PO PG g := by unfold flushL; rw [if_neg hgp]
              rw [hfl] at H1
              have H5 := Hid.mk' H1.out.cleared
              clear hq1 H1 hfl
              obtain ⟨d0, d1, d2, d3, d4, d5, d6⟩ := HBE.out wr H5.out.below
              have cP := push_can ⟨3, t, (xx, nn, u), cc, A⟩ sp sl sc H5.out HF.out.1 HQ.out.2.1 (Nat.le_refl _) (by decide) (Nat.le_refl _) HF.out.2.1 HF.out.2.2.1 HF.out.2.2.2.1 HF.out.2.2.2.2
              have H2 : Hid ((stA E (m + 1)).2.2 = 0) := by show _ = _; rw [HNX.out]
              have h1 : pushL (flushL PO PG g) ⟨3, t, (xx, nn, u), cc, A⟩ = (stA E (m + 1)).1 := by rw [HNX.out]
              have h2 : ([] : List Op5) = (stA E (m + 1)).2.1 := by rw [HNX.out]
              rw [h1, h2] at cP
              clear H5 h1 h2 HNX HQ HF
              simp only [slV] at d0 d1 d2 d3 d4 d5 d6 cP
              go_wp2_with fail
              refine cP.mono ?_; rintro r w6 ⟨v6, rfl, h6⟩
              have H6 := Hid.mk' h6
              clear cP d0 d1 d2 d3 d4 d5 d6 h6
              go_wp2
              go_roundw
              case rel => exact ⟨m + 1, by omega, by go_num, by rw [H2.out], H6⟩
              case measure => simp [RowKit.intOf]; omega
      · have HNX := Hid.mk' (stA_del he hk)
        have cI0 : decide (e.k = 1 ∨ e.k = 2) = false := decide_eq_false (by omega)
        rw [cI0] at cI
        have hcnt := how.count (Or.inr hk)
        have hg2 := hq.2.2.2.2.1
        have hg1 := hq.2.2.2.1
        clear cI0 HF HQ hq hrn how hA ht hat he
        obtain ⟨g, hg⟩ : ∃ x, (stA E m).2.2 = x := ⟨_, rfl⟩
        rw [hg] at HNX hg1 hg2 ⊢
        obtain ⟨k, t, ⟨xx, nn, u⟩, cc, A⟩ := e
        simp only [slV] at hk c0 c1 c2 c3 c4 c5 c6 hec hcnt cI
        subst hk
        go_wp2_with fail
        refine cI.mono ?_; rintro r w1 ⟨rfl, hb1⟩
        have c0' := (hb1.cell (lt_of_cell c0)).trans c0
        have c5' := (hb1.cell (lt_of_cell c5)).trans c5
        have H1 : Hid (CanS w0 w w1 u3 u4 (stA E (m + 1)).1 (stA E (m + 1)).2.1) := by rw [HNX.out]; exact HS.out.keep hb1
        have H2 : Hid ((stA E (m + 1)).2.2 = g + cc) := by show _ = _; rw [HNX.out]
        clear cI HS HNX c0 c1 c2 c3 c4 c5 c6 hg hb1
        go_wp2
        go_roundw
        case rel => exact ⟨m + 1, by omega, by go_num, by rw [H2.out], H1⟩
        case measure => simp [RowKit.intOf]; omega
    · by_cases hmn : m = n
      · subst hmn
        have hge0 : (0 : Int) ≤ (m : Int) := by omega
        have hq := stA_qW HN.out.2 (m := m) (by have := HN.out.1; omega)
        have HQ := Hid.mk' hq
        have hst : stA E (m + 1) = (flushL (stA E m).1 (stA E m).2.1 (stA E m).2.2, [], 0) := by
          have e1 := HN.out.1
          rw [← e1, stA_end, stA_at (Nat.le_refl _), List.take_length]
        have HNX := Hid.mk' hst
        clear hq hst hlt
        obtain ⟨PO, hPO⟩ : ∃ x, (stA E m).1 = x := ⟨_, rfl⟩
        obtain ⟨PG, hPG⟩ : ∃ x, (stA E m).2.1 = x := ⟨_, rfl⟩
        obtain ⟨g, hg⟩ : ∃ x, (stA E m).2.2 = x := ⟨_, rfl⟩
        rw [hPO, hPG, hg] at HNX HQ
        rw [hPO, hPG] at HS
        rw [hg]
        clear hPO hPG hg
        have hg2 := HQ.out.2.2.2.2.1
        have hg1 := HQ.out.2.2.2.1
        obtain ⟨pg, cg, rfl⟩ := HS.out.len
        obtain ⟨lg, hlg⟩ : ∃ x, PG.length = x := ⟨_, rfl⟩
        have HLG : Hid (PG.length = lg) := hlg
        have hlg4 : lg ≤ 4194304 := by have := HQ.out.2.2.2.2.2; omega
        have H1 : Hid (CanS w0 w wr u3 (.slice pg PG.length cg) PO PG) := HS
        rw [hlg] at H1 ⊢
        clear hlg HS
        go_wp2
        go_loopw [3, 56] (fun vo i wr2 => ∃ (j : Nat), j ≤ lg ∧ i = .int .i64 j ∧ Hid (CanS w0 w wr2 vo (.slice pg lg cg) ((PG.take j).foldl pushL PO) PG)) (fun _ i _ => lg - (RowKit.intOf i).toNat)
        case atStart => exact ⟨0, Nat.zero_le _, rfl, by rw [List.take_zero]; exact H1⟩
        case round =>
          clear H1
          obtain ⟨j, hj, rfl, H1⟩ := hrel
          by_cases hjl : j < lg
          · have hjI : (j : Int) < lg := by omega
            have hj0 : (0 : Int) ≤ (j : Int) := by omega
            obtain ⟨e', gg, sp', sl', sc', he', rfl, hat', hrn'⟩ := H1.out.read j (by rw [HLG.out]; exact hjl)
            obtain ⟨d0, d1, d2, d3, d4, d5, d6⟩ := hat'
            rw [Nat.zero_add] at d0 d1 d2 d3 d4 d5 d6
            have HB := H1.out.keep ((Below.refl wr.heap.size wr).alloc (Nat.le_refl _) (.cells (opC e' (.slice sp' sl' sc')) 33))
            obtain ⟨a1, a2, a3, a4⟩ := HQ.out.2.2.1 e' (List.mem_of_getElem? he')
            have cP := push_can e' sp' sl' sc' HB hrn' (HQ.out.1 j) (Nat.le_refl _) (by decide) (Nat.le_refl _) a1 a2 a3 a4
            have hP2 : pushL ((PG.take j).foldl pushL PO) e' = (PG.take (j + 1)).foldl pushL PO := by rw [List.take_add_one, he', List.foldl_append]; rfl
            rw [hP2] at cP
            clear HB a1 a2 a3 a4 H1 hrn' he' hP2
            obtain ⟨k', t', ⟨x', n', u'⟩, c', A'⟩ := e'
            simp only [opC, slV] at d0 d1 d2 d3 d4 d5 d6 cP
            go_wp2_with fail
            refine cP.mono ?_; rintro r w5 ⟨v5, rfl, h5⟩
            have H5 := Hid.mk' h5
            clear cP d0 d1 d2 d3 d4 d5 d6 h5
            go_wp2
            go_roundw
            case rel => exact ⟨j + 1, by omega, by go_num, H5⟩
            case measure => simp [RowKit.intOf]; omega
          · obtain rfl : j = lg := by omega
            have hjI : ¬ (j : Int) < j := by omega
            have hq1 := HQ.out.1 j
            rw [show PG.take j = PG by have := HLG.out; rw [← this, List.take_length]] at H1 hq1
            by_cases hgp : 0 < g
            · have cP := push_can (delO g) none 0 0 H1.out (RN.nil w0) hq1 (Nat.le_refl _) (by decide) (Nat.le_refl _) (delO_wel (by omega)) (by show (0 : Nat) ≤ _; omega) (by show (0 : Nat) ≤ _; omega) (by show g ≤ _; omega)
              have hfl : pushL (PG.foldl pushL PO) (delO g) = flushL PO PG g := by unfold flushL; rw [if_pos hgp]
              rw [hfl] at cP
              simp only [delO] at cP
              clear hq1 H1 hfl
              go_wp2_with fail
              refine cP.mono ?_; rintro r w5 ⟨v5, rfl, h5⟩
              have H5 := Hid.mk' h5.cleared
              clear cP h5
              have H2 : Hid ((stA E (m + 1)).2.2 = 0) := by show _ = _; rw [HNX.out]
              have H6 : Hid (CanS w0 w w5 v5 (.slice none 0 0) (stA E (m + 1)).1 (stA E (m + 1)).2.1) := by rw [HNX.out]; exact H5
              clear H5 HNX HQ
              go_wp2
              go_roundw
              case rel => exact ⟨m + 1, by omega, by go_num, by rw [H2.out], H6⟩
              case measure => (simp [RowKit.intOf]) <;> omega
            · have hfl : PG.foldl pushL PO = flushL PO PG g := by unfold flushL; rw [if_neg hgp]
              rw [hfl] at H1
              have H5 := Hid.mk' H1.out.cleared
              clear hq1 H1 hfl
              have H2 : Hid ((stA E (m + 1)).2.2 = 0) := by show _ = _; rw [HNX.out]
              have H6 : Hid (CanS w0 w wr u3 (.slice none 0 0) (stA E (m + 1)).1 (stA E (m + 1)).2.1) := by rw [HNX.out]; exact H5
              clear H5 HNX HQ
              go_wp2
              go_roundw
              case rel => exact ⟨m + 1, by omega, by go_num, by rw [H2.out], H6⟩
              case measure => (simp [RowKit.intOf]) <;> omega
      · obtain rfl : m = n + 1 := by omega
        have hnl1 : ¬ ((n : Int) + 1 ≤ n) := by omega
        have hst : (stA E (n + 1)).1 = flushL (runC E).1 (runC E).2.1 (runC E).2.2 := by
          have e1 := HN.out.1
          rw [← e1, stA_end]
        rw [hst] at HS
        have hq := (stA_qW HN.out.2 (m := n) (by have := HN.out.1; omega)).2.1.len
        rw [stA_at (by have := HN.out.1; omega), show E.take n = E by have := HN.out.1; rw [← this, List.take_length]] at hq
        have hcan : canonL E = trimL (flushL (runC E).1 (runC E).2.1 (runC E).2.2) := rfl
        generalize flushL (runC E).1 (runC E).2.1 (runC E).2.2 = P at HS hq hcan
        have hb := HS.out.below
        obtain ⟨D, hown, hD⟩ := HS.out.out
        have hD' := hD
        have hlen := forall2_len hD
        generalize (stA E (n + 1)).2.2 = g at *
        clear HS hst HN HR hD
        rcases List.eq_nil_or_concat P with rfl | ⟨F, x, rfl⟩
        · obtain rfl : D = [] := List.eq_nil_of_length_eq_zero (by simpa using hlen)
          obtain ⟨po, co, hvo⟩ := own_slice hown
          obtain rfl : u3 = .slice po 0 co := hvo
          have HO : Hid (FarO wr w.heap.size (.slice po 0 co) [] ∧ Below w.heap.size w wr) := ⟨far_own hown rfl (fun _ _ h => h) (Nat.le_refl _), hb⟩
          have HC : Hid (canonL E = []) := hcan
          clear hown hb hD' hlen hq hmn hlt hm hcan
          go_wp2
          go_ret
          exact ⟨_, rfl, ⟨[], HO.out.1, by rw [HC.out]; exact .nil⟩, HO.out.2⟩
        · rw [List.concat_eq_append] at hD' hlen hq hcan
          obtain ⟨FD, d, rfl⟩ : ∃ FD d, D = FD ++ [d] := by
            rcases List.eq_nil_or_concat D with rfl | ⟨FD, d, rfl⟩
            · simp at hlen
            · exact ⟨FD, d, List.concat_eq_append⟩
          have hl' : FD.length = F.length := by simpa using hlen
          obtain ⟨hF, hx⟩ := forall2_unappend hl' hD'
          obtain ⟨hx1, hx2, hx3, hx4, hx5⟩ : d.1 = x.k ∧ d.2.1 = x.t ∧ d.2.2.1 = x.v ∧ d.2.2.2.1 = x.c ∧ RN w0 (slV d.2.2.2.2) x.A := by cases hx with | cons a _ => exact a
          obtain ⟨dk, dt, dv, dc, sp, sl, sc⟩ := d
          simp only at hx1 hx2 hx3 hx4
          subst hx1; subst hx2; subst hx3; subst hx4
          have hro := own_rowO hown
          obtain ⟨po, co, hvo, hco1, hco2, hco3⟩ := hro
          obtain ⟨bo, oo, rfl, hat⟩ := hco3 FD.length (x.k, x.t, x.v, x.c, sp, sl, sc) (by simp)
          obtain ⟨c0, c1, c2, c3, c4, c5, c6⟩ := hat
          rw [show (FD ++ [(x.k, x.t, x.v, x.c, sp, sl, sc)]).length = FD.length + 1 by simp] at hvo hco1
          subst hvo
          have hlA : sl = x.A.length := by
            obtain ⟨q, cc, e1, _⟩ := hx5.row
            simp only [slV, Value.slice.injEq] at e1
            exact e1.2.1
          have cP := plain6_any x sp sl sc wr hlA
          have HB := Hid.mk' hb
          have HO := Hid.mk' hown
          have HRF : Hid (FarO wr w.heap.size (.slice (some ⟨bo, oo, none⟩) FD.length co) FD ∧ ReD w0 FD F) := ⟨far_own hown rfl (fun j d hd => by rw [List.getElem?_append_left (List.getElem?_eq_some_iff.1 hd).1]; exact hd) (by simp), hF⟩
          have HRX : Hid (FarO wr w.heap.size (.slice (some ⟨bo, oo, none⟩) (FD.length + 1) co) (FD ++ [(x.k, x.t, x.v, x.c, sp, sl, sc)]) ∧ ReD w0 (FD ++ [(x.k, x.t, x.v, x.c, sp, sl, sc)]) (F ++ [x])) := ⟨by have h := far_own hown rfl (F := FD ++ [(x.k, x.t, x.v, x.c, sp, sl, sc)]) (fun _ _ h => h) (Nat.le_refl _); rw [show (FD ++ [(x.k, x.t, x.v, x.c, sp, sl, sc)]).length = FD.length + 1 by simp] at h; exact h, forall2_append hF hx⟩
          have hFl : FD.length ≤ 4194304 := by simp at hq; omega
          obtain ⟨fl, hfl⟩ : ∃ y, FD.length = y := ⟨_, rfl⟩
          rw [hfl] at HRF HRX hFl hco1 c0 c1 c2 c3 c4 c5 c6 ⊢
          clear hco3 hco2 hx5 hx hF hl' hlen hD' hown hb hq hfl HO hmn hlt hm hlA
          have hf0 : (0 : Int) < (fl : Int) + 1 := by omega
          have hf1 : (fl : Int) + 1 - 1 = (fl : Int) := by omega
          have hf2 : (0 : Int) ≤ (fl : Int) := by omega
          cases hp : plainR x with
          | true =>
            rw [trim_yes hp] at hcan
            have HC := Hid.mk' hcan
            rw [hp] at cP
            clear HRX hp hcan
            obtain ⟨k, t, ⟨xx, nn, u⟩, cc, A⟩ := x
            simp only [slV] at c0 c1 c2 c3 c4 c5 c6 cP
            go_wp2_with fail
            refine cP.mono ?_; rintro r w1 ⟨rfl, hb1⟩
            have HB1 : Hid (Below w.heap.size w w1) := HB.out.trans (hb1.mono HB.out.size)
            have HR1 := Hid.mk' (And.intro (HRF.out.1.below hb1) HRF.out.2)
            clear cP c0 c1 c2 c3 c4 c5 c6 HRF HB hb1
            go_wp2
            go_ret
            exact ⟨_, rfl, ⟨_, HR1.out.1, by rw [HC.out]; exact HR1.out.2⟩, HB1.out⟩
          | false =>
            rw [trim_no hp] at hcan
            have HC := Hid.mk' hcan
            rw [hp] at cP
            clear HRF hp hcan
            obtain ⟨k, t, ⟨xx, nn, u⟩, cc, A⟩ := x
            simp only [slV] at c0 c1 c2 c3 c4 c5 c6 cP
            go_wp2_with fail
            refine cP.mono ?_; rintro r w1 ⟨rfl, hb1⟩
            have HB1 : Hid (Below w.heap.size w w1) := HB.out.trans (hb1.mono HB.out.size)
            have HR1 := Hid.mk' (And.intro (HRX.out.1.below hb1) HRX.out.2)
            clear cP c0 c1 c2 c3 c4 c5 c6 HRX HB hb1
            go_wp2
            go_ret
            exact ⟨_, rfl, ⟨_, HR1.out.1, by rw [HC.out]; exact HR1.out.2⟩, HB1.out⟩
end Go.Proofs.YtalfdjglbbmjcaaGreatDoor

/- The document's deltas: Of. -/
namespace Go.Proofs.YtalfdjglbbmjcaaGreatDoor
open Go Go.RowKit Go.Lib
set_option linter.unusedVariables false

set_option maxHeartbeats 40000000 in
set_option maxRecDepth 100000 in
theorem ref6Of_any {I : List Nat} {a : Nat → Addr} {w0 : World} (va : Value) (D0 : List OV) (E : List Op5) (w : World) (hS : Std I a w) (hb0 : Below w0.heap.size w0 w) (hrow : RowO w va D0) (hre : ReD w0 D0 E) (hF : FitL E) (hl : E.length ≤ 1048576) (ht : txtS E ≤ 8388608) :
    Calls Tryz.prog 77 #[va] w fun r w' => ∃ dv, r = .returned (.tuple #[dv, .int .i64 (ofE 0 0 E).1, .int .i64 (ofE 0 0 E).2]) ∧ ((ofE 0 0 E).2 = 0 → ∃ D', FarO w' w.heap.size dv D' ∧ ReD w0 D' (canonL E)) ∧ ((ofE 0 0 E).2 ≠ 0 → dv = .slice none 0 0) ∧ Below w.heap.size w w' := by
  have CK : Hid (OkE E → ∀ W, Below w.heap.size w W → Calls Tryz.prog 11 #[va] W fun r w' => ∃ v', r = .returned v' ∧ (∃ D', FarO w' W.heap.size v' D' ∧ ReD w0 D' (canonL E)) ∧ Below W.heap.size W w') := fun ok W hW => canon6_any va D0 E W (hb0.trans (hW.mono hb0.size)) (hrow.below hW) hre ok
  have CC : Hid (∀ (o : Op5) (s : Value) (W W2 : World), Below w.heap.size w W → Below W.heap.size W W2 → RN w s o.A → Fit o → Calls Tryz.prog 69 #[opV o s] W2 fun r w' => r = .returned (.int .i64 (opE o)) ∧ Below W2.heap.size W2 w') := fun o s W W2 hW hW2 hR hf => refCheckO_any o s W2 ((hS.below hW).below hW2) ((hR.below hW).below hW2) hf
  have hDE := forall2_len hre
  obtain ⟨n, hn⟩ : ∃ n, E.length = n := ⟨_, rfl⟩
  obtain ⟨p, cap, rfl, hcap, hnz, hc⟩ := hrow
  have HR : Hid (∀ k, k < n → ∃ (e : Op5) (b off : Nat) (sp : Option Addr) (sl sc : Nat), E[k]? = some e ∧ p = some ⟨b, off, none⟩ ∧ OpAt w b (off + k * 7) (e.k, e.t, e.v, e.c, (sp, sl, sc)) ∧ RN w0 (.slice sp sl sc) e.A) := fun k hk => by
    obtain ⟨d, hd⟩ : ∃ d, D0[k]? = some d := ⟨_, List.getElem?_eq_getElem (by omega)⟩
    obtain ⟨e, he, h1, h2, h3, h4, h5⟩ := forall2_get hre k d hd
    obtain ⟨b, off, hp, hat⟩ := hc k d hd
    obtain ⟨dk, dt, dv, dc, sp, sl, sc⟩ := d
    simp only at h1 h2 h3 h4
    subst h1; subst h2; subst h3; subst h4
    exact ⟨e, b, off, sp, sl, sc, he, hp, hat, h5⟩
  have HN : Hid (E.length = n ∧ FitL E ∧ txtS E ≤ 8388608) := ⟨hn, hF, ht⟩
  have hnl : n ≤ 1048576 := by omega
  rw [hDE, hn] at hcap CK ⊢
  clear hc hDE hre hnz hn hF ht hS hl
  go_enter Tryz.func77, Tryz.ntmps77
  go_wp2
  go_loopw [5, 6, 13] (fun bb rr i wr => ∃ (k : Nat), k ≤ n ∧ i = .int .i64 k ∧ bb = .int .i64 (sumB (E.take k)) ∧ rr = .int .i64 (sumR (E.take k)) ∧ Hid (OkE (E.take k)) ∧ Below w.heap.size w wr) (fun _ _ i _ => n - (RowKit.intOf i).toNat)
  case atStart => exact ⟨0, Nat.zero_le _, rfl, by rw [List.take_zero]; rfl, by rw [List.take_zero]; rfl, by rw [List.take_zero]; exact OkE.nil, Below.refl _ _⟩
  case round =>
    obtain ⟨k, hk, rfl, rfl, rfl, HO, hbw⟩ := hrel
    obtain ⟨bs, hbs⟩ : ∃ x, sumB (E.take k) = x := ⟨_, rfl⟩
    obtain ⟨rs, hrs⟩ : ∃ x, sumR (E.take k) = x := ⟨_, rfl⟩
    have hb1 : 0 ≤ bs := by rw [← hbs]; exact (sums_nn HO.out.wel).1
    have hr1 : 0 ≤ rs := by rw [← hrs]; exact (sums_nn HO.out.wel).2
    have hb2 : bs ≤ 1099511627776 := by rw [← hbs]; exact HO.out.base
    have hr2 : rs ≤ 1099511627776 := by rw [← hrs]; exact HO.out.res
    rw [hbs, hrs]
    by_cases hlt : k < n
    · have hltI : (k : Int) < n := by omega
      have hk0 : (0 : Int) ≤ (k : Int) := by omega
      obtain ⟨e, b, off, sp, sl, sc, he, rfl, hat, hrn⟩ := HR.out k hlt
      have hem := List.mem_of_getElem? he
      have hfe := HN.out.2.1 e hem
      obtain ⟨c0, c1, c2, c3, c4, c5, c6⟩ := hat.below hbw
      have bw : Below wr.heap.size wr (wr.alloc (.cells (opC e (.slice sp sl sc)) 33)) := (Below.refl _ _).alloc (Nat.le_refl _) _
      have cC := CC.out e (.slice sp sl sc) wr _ hbw bw (hrn.below hb0) hfe
      have HX : Hid (∀ W, Below (wr.alloc (.cells (opC e (.slice sp sl sc)) 33)).heap.size (wr.alloc (.cells (opC e (.slice sp sl sc)) 33)) W → OpAt W wr.heap.size 0 (e.k, e.t, e.v, e.c, (sp, sl, sc)) ∧ Below w.heap.size w W) := fun W hW => ⟨OpAt.below (w := wr.alloc (.cells (opC e (.slice sp sl sc)) 33)) ⟨by simp [opC], by simp [opC], by simp [opC], by simp [opC], by simp [opC], by simp [opC], by simp [opC, slV]⟩ hW, hbw.trans ((bw.trans (hW.mono bw.size)).mono hbw.size)⟩
      have hT : E.take (k + 1) = E.take k ++ [e] := by rw [List.take_add_one, he]; rfl
      have HT : Hid (E.take (k + 1) = E.take k ++ [e] ∧ E[k]? = some e ∧ sumB (E.take k) = bs ∧ sumR (E.take k) = rs) := ⟨hT, he, hbs, hrs⟩
      by_cases hz : opE e = 0
      · have hln := len5_range hz hfe
        have hkk := kinds_of hz
        have cL := fun W => len6_any e sp sl sc W hz hfe.t
        have cI := fun W => ins6_any e sp sl sc W
        have hbO : baseO e = if e.k = 3 ∨ e.k = 4 then len5 e else 0 := rfl
        have hrO : resO e = if e.k = 4 then 0 else len5 e := rfl
        have HNX : Hid (bs + baseO e ≤ 1099511627776 ∧ rs + resO e ≤ 1099511627776 → OkE (E.take (k + 1)) ∧ sumB (E.take (k + 1)) = bs + baseO e ∧ sumR (E.take (k + 1)) = rs + resO e) := fun h => by
          have htk := txtS_take E (k + 1)
          have hg : refE (sumB (E.take k)) (sumR (E.take k)) e = 0 := refE_zero.2 ⟨hz, by rw [hbs]; exact h.1, by rw [hrs]; exact h.2⟩
          refine ⟨?_, by rw [hT, sumB_append, sumB_one, hbs], by rw [hT, sumR_append, sumR_one, hrs]⟩
          rw [hT] at htk ⊢
          exact okE_snoc HO.out hg hfe.fitA (Nat.le_trans htk HN.out.2.2) (by simp; omega)
        have HBD : Hid (1099511627776 < bs + baseO e ∨ 1099511627776 < rs + resO e → ofE 0 0 E = (k, 11)) := fun h => ofE_no he HO.out (e := 10) (by unfold refE; rw [if_neg (by simpa using hz), hbs, hrs, if_pos h])
        rw [hz] at cC
        obtain ⟨ln, hll⟩ : ∃ x, len5 e = x := ⟨_, rfl⟩
        rw [hll] at hln cL hbO hrO
        have hmn : min ln 1099511627777 = ln := by omega
        have hmn2 : ln ≤ 1099511627777 := by omega
        clear hz hll HT hT hem hat hrn bw HR CC hfe he hbs hrs HO
        obtain ⟨kk, t, ⟨xx, nn, u⟩, cc, A⟩ := e
        simp only [opC, slV] at c0 c1 c2 c3 c4 c5 c6 cC cL cI hkk hbO hrO HX
        rcases (show (kk = 1 ∨ kk = 2) ∨ kk = 3 ∨ kk = 4 by omega) with hi | hi | hi
        · have hk4 : (kk != 4) = true := by simp; omega
          rw [if_neg (by omega)] at hbO
          rw [if_neg (by omega)] at hrO
          replace hbO := congrArg (fun z => bs + z) hbO
          replace hrO := congrArg (fun z => rs + z) hrO
          try simp only [Int.add_zero] at hbO
          try simp only [Int.add_zero] at hrO
          go_wp2_with fail
          refine cC.mono ?_; rintro r w1 ⟨rfl, hw1⟩
          obtain ⟨⟨d0, d1, d2, d3, d4, d5, d6⟩, b1⟩ := HX.out w1 hw1
          simp only [Nat.zero_add, slV] at d0 d1 d2 d3 d4 d5 d6
          have cl := cL w1
          clear cC c0 c1 c2 c3 c4 c5 c6 hw1 cL
          go_wp2_with fail
          refine cl.mono ?_; rintro r w2 ⟨rfl, hw2⟩
          replace d0 := (hw2.cell (lt_of_cell d0)).trans d0
          replace d1 := (hw2.cell (lt_of_cell d1)).trans d1
          replace d2 := (hw2.cell (lt_of_cell d2)).trans d2
          replace d3 := (hw2.cell (lt_of_cell d3)).trans d3
          replace d4 := (hw2.cell (lt_of_cell d4)).trans d4
          replace d5 := (hw2.cell (lt_of_cell d5)).trans d5
          replace d6 := (hw2.cell (lt_of_cell d6)).trans d6
          have b2 := b1.trans (hw2.mono b1.size)
          have ci := cI w2
          rw [decide_eq_true hi] at ci
          clear cl b1 hw2 cI
          go_wp2_with fail
          refine ci.mono ?_; rintro r w3 ⟨rfl, hw3⟩
          replace d0 := (hw3.cell (lt_of_cell d0)).trans d0
          have b3 := b2.trans (hw3.mono b2.size)
          have HB3 := Hid.mk' b3
          clear ci b2 hw3 d1 d2 d3 d4 d5 d6 b3
          by_cases hov : 1099511627776 < bs ∨ 1099511627776 < rs + ln
          · have HB : Hid (ofE 0 0 E = (k, 11)) := HBD.out (by rw [hbO, hrO]; exact hov)
            clear HBD HNX hbO hrO
            rcases (show 1099511627776 < bs ∨ (¬ 1099511627776 < bs ∧ 1099511627776 < rs + ln) by omega) with hov | ⟨hov1, hov⟩
            · first | (exfalso; omega) | (go_wp2; go_ret3; exact ⟨_, by rw [HB.out]; rfl, fun h => (by rw [HB.out] at h; cases h), fun _ => rfl, HB3.out⟩)
            · first | (exfalso; omega) | (go_wp2; go_ret3; exact ⟨_, by rw [HB.out]; rfl, fun h => (by rw [HB.out] at h; cases h), fun _ => rfl, HB3.out⟩)
          · have hn1 : ¬ 1099511627776 < bs := fun h => hov (Or.inl h)
            have hn2 : ¬ 1099511627776 < rs + ln := fun h => hov (Or.inr h)
            have hnx := HNX.out (by rw [hbO, hrO]; omega)
            rw [hbO, hrO] at hnx
            have HY := Hid.mk' hnx
            clear HBD HNX hbO hrO hov hnx
            go_wp2
            go_roundw
            case rel => exact ⟨k + 1, by omega, by go_num, by rw [HY.out.2.1], by rw [HY.out.2.2], HY.out.1, HB3.out⟩
            case measure => simp [RowKit.intOf]; omega
        · subst hi
          rw [if_pos (by omega)] at hbO
          rw [if_neg (by omega)] at hrO
          replace hbO := congrArg (fun z => bs + z) hbO
          replace hrO := congrArg (fun z => rs + z) hrO
          try simp only [Int.add_zero] at hbO
          try simp only [Int.add_zero] at hrO
          go_wp2_with fail
          refine cC.mono ?_; rintro r w1 ⟨rfl, hw1⟩
          obtain ⟨⟨d0, d1, d2, d3, d4, d5, d6⟩, b1⟩ := HX.out w1 hw1
          simp only [Nat.zero_add, slV] at d0 d1 d2 d3 d4 d5 d6
          have cl := cL w1
          clear cC c0 c1 c2 c3 c4 c5 c6 hw1 cL
          go_wp2_with fail
          refine cl.mono ?_; rintro r w2 ⟨rfl, hw2⟩
          replace d0 := (hw2.cell (lt_of_cell d0)).trans d0
          replace d1 := (hw2.cell (lt_of_cell d1)).trans d1
          replace d2 := (hw2.cell (lt_of_cell d2)).trans d2
          replace d3 := (hw2.cell (lt_of_cell d3)).trans d3
          replace d4 := (hw2.cell (lt_of_cell d4)).trans d4
          replace d5 := (hw2.cell (lt_of_cell d5)).trans d5
          replace d6 := (hw2.cell (lt_of_cell d6)).trans d6
          have b2 := b1.trans (hw2.mono b1.size)
          have ci := cI w2
          rw [decide_eq_false (by omega)] at ci
          clear cl b1 hw2 cI
          go_wp2_with fail
          refine ci.mono ?_; rintro r w3 ⟨rfl, hw3⟩
          replace d0 := (hw3.cell (lt_of_cell d0)).trans d0
          have b3 := b2.trans (hw3.mono b2.size)
          have HB3 := Hid.mk' b3
          clear ci b2 hw3 d1 d2 d3 d4 d5 d6 b3
          by_cases hov : 1099511627776 < bs + ln ∨ 1099511627776 < rs + ln
          · have HB : Hid (ofE 0 0 E = (k, 11)) := HBD.out (by rw [hbO, hrO]; exact hov)
            clear HBD HNX hbO hrO
            rcases (show 1099511627776 < bs + ln ∨ (¬ 1099511627776 < bs + ln ∧ 1099511627776 < rs + ln) by omega) with hov | ⟨hov1, hov⟩
            · first | (exfalso; omega) | (go_wp2; go_ret3; exact ⟨_, by rw [HB.out]; rfl, fun h => (by rw [HB.out] at h; cases h), fun _ => rfl, HB3.out⟩)
            · first | (exfalso; omega) | (go_wp2; go_ret3; exact ⟨_, by rw [HB.out]; rfl, fun h => (by rw [HB.out] at h; cases h), fun _ => rfl, HB3.out⟩)
          · have hn1 : ¬ 1099511627776 < bs + ln := fun h => hov (Or.inl h)
            have hn2 : ¬ 1099511627776 < rs + ln := fun h => hov (Or.inr h)
            have hnx := HNX.out (by rw [hbO, hrO]; omega)
            rw [hbO, hrO] at hnx
            have HY := Hid.mk' hnx
            clear HBD HNX hbO hrO hov hnx
            go_wp2
            go_roundw
            case rel => exact ⟨k + 1, by omega, by go_num, by rw [HY.out.2.1], by rw [HY.out.2.2], HY.out.1, HB3.out⟩
            case measure => simp [RowKit.intOf]; omega
        · subst hi
          rw [if_pos (by omega)] at hbO
          rw [if_pos (by omega)] at hrO
          replace hbO := congrArg (fun z => bs + z) hbO
          replace hrO := congrArg (fun z => rs + z) hrO
          try simp only [Int.add_zero] at hbO
          try simp only [Int.add_zero] at hrO
          go_wp2_with fail
          refine cC.mono ?_; rintro r w1 ⟨rfl, hw1⟩
          obtain ⟨⟨d0, d1, d2, d3, d4, d5, d6⟩, b1⟩ := HX.out w1 hw1
          simp only [Nat.zero_add, slV] at d0 d1 d2 d3 d4 d5 d6
          have cl := cL w1
          clear cC c0 c1 c2 c3 c4 c5 c6 hw1 cL
          go_wp2_with fail
          refine cl.mono ?_; rintro r w2 ⟨rfl, hw2⟩
          replace d0 := (hw2.cell (lt_of_cell d0)).trans d0
          replace d1 := (hw2.cell (lt_of_cell d1)).trans d1
          replace d2 := (hw2.cell (lt_of_cell d2)).trans d2
          replace d3 := (hw2.cell (lt_of_cell d3)).trans d3
          replace d4 := (hw2.cell (lt_of_cell d4)).trans d4
          replace d5 := (hw2.cell (lt_of_cell d5)).trans d5
          replace d6 := (hw2.cell (lt_of_cell d6)).trans d6
          have b2 := b1.trans (hw2.mono b1.size)
          have ci := cI w2
          rw [decide_eq_false (by omega)] at ci
          clear cl b1 hw2 cI
          go_wp2_with fail
          refine ci.mono ?_; rintro r w3 ⟨rfl, hw3⟩
          replace d0 := (hw3.cell (lt_of_cell d0)).trans d0
          have b3 := b2.trans (hw3.mono b2.size)
          have HB3 := Hid.mk' b3
          clear ci b2 hw3 d1 d2 d3 d4 d5 d6 b3
          by_cases hov : 1099511627776 < bs + ln ∨ 1099511627776 < rs
          · have HB : Hid (ofE 0 0 E = (k, 11)) := HBD.out (by rw [hbO, hrO]; exact hov)
            clear HBD HNX hbO hrO
            rcases (show 1099511627776 < bs + ln ∨ (¬ 1099511627776 < bs + ln ∧ 1099511627776 < rs) by omega) with hov | ⟨hov1, hov⟩
            · first | (exfalso; omega) | (go_wp2; go_ret3; exact ⟨_, by rw [HB.out]; rfl, fun h => (by rw [HB.out] at h; cases h), fun _ => rfl, HB3.out⟩)
            · first | (exfalso; omega) | (go_wp2; go_ret3; exact ⟨_, by rw [HB.out]; rfl, fun h => (by rw [HB.out] at h; cases h), fun _ => rfl, HB3.out⟩)
          · have hn1 : ¬ 1099511627776 < bs + ln := fun h => hov (Or.inl h)
            have hn2 : ¬ 1099511627776 < rs := fun h => hov (Or.inr h)
            have hnx := HNX.out (by rw [hbO, hrO]; omega)
            rw [hbO, hrO] at hnx
            have HY := Hid.mk' hnx
            clear HBD HNX hbO hrO hov hnx
            go_wp2
            go_roundw
            case rel => exact ⟨k + 1, by omega, by go_num, by rw [HY.out.2.1], by rw [HY.out.2.2], HY.out.1, HB3.out⟩
            case measure => simp [RowKit.intOf]; omega
      · obtain ⟨x, hx⟩ : ∃ x, opE e = x + 1 := ⟨opE e - 1, by omega⟩
        have HBD : Hid (ofE 0 0 E = (k, x + 1)) := ofE_no he HO.out (by unfold refE; rw [if_pos hz, hx])
        rw [hx] at cC
        have hx0 : ((x : Int) + 1 != 0) = true := by simp; omega
        clear hz hx HT hT hem hat hrn bw HR CC hfe he hbs hrs HO
        obtain ⟨kk, t, ⟨xx, nn, u⟩, cc, A⟩ := e
        simp only [opC, slV] at c0 c1 c2 c3 c4 c5 c6 cC HX
        go_wp2_with fail
        refine cC.mono ?_; rintro r w1 ⟨rfl, hw1⟩
        obtain ⟨_, b1⟩ := HX.out w1 hw1
        have HB1 := Hid.mk' b1
        clear cC c0 c1 c2 c3 c4 c5 c6 hw1 b1
        go_wp2
        go_ret3
        exact ⟨_, by rw [HBD.out]; rfl, fun h => (by rw [HBD.out] at h; cases h), fun _ => rfl, HB1.out⟩
    · have hltI : ¬ (k : Int) < n := by omega
      have hE : E.take k = E := List.take_of_length_le (by have := HN.out.1; omega)
      rw [hE] at HO
      have HBD : Hid (ofE 0 0 E = (0, 0)) := ofE_ok E 0 0 HO.out.good (by have := HO.out.base; omega) (by have := HO.out.res; omega)
      have cK := CK.out HO.out wr hbw
      clear hE HO hbs hrs CK CC
      go_wp2_with fail
      refine cK.mono ?_; rintro r w5 ⟨dv, rfl, ⟨D5, h5, h6⟩, hb5⟩
      have H5 : Hid (FarO w5 w.heap.size dv D5 ∧ ReD w0 D5 (canonL E)) := ⟨h5.weaken hbw.size, h6⟩
      have B5 : Hid (Below w.heap.size w w5) := hbw.trans (hb5.mono hbw.size)
      clear cK h5 h6 hb5
      go_wp2
      go_ret3
      exact ⟨_, by rw [HBD.out]; rfl, fun _ => ⟨_, H5.out⟩, fun h => (by rw [HBD.out] at h; exact absurd rfl h), B5.out⟩
end Go.Proofs.YtalfdjglbbmjcaaGreatDoor

/- The document's deltas: Lengths, Long. -/
namespace Go.Proofs.YtalfdjglbbmjcaaGreatDoor
open Go Go.RowKit Go.Lib
set_option linter.unusedVariables false

/-- A sum, -1 above the bound. -/
def capM (x : Int) : Int := if 1099511627776 < x then -1 else x
theorem cap_step {x y : Int} (hx : 0 ≤ x) (hy : 0 ≤ y) : (capM x = -1 ∧ capM (x + y) = -1) ∨ (0 ≤ capM x ∧ capM x ≤ 1099511627776 ∧ ¬ 1099511627776 < capM x + y ∧ capM (x + y) = capM x + y) ∨ (0 ≤ capM x ∧ capM x ≤ 1099511627776 ∧ 1099511627776 < capM x + y ∧ capM (x + y) = -1) := by
  unfold capM
  by_cases h : 1099511627776 < x
  · rw [if_pos h, if_pos (by omega)]; exact Or.inl ⟨rfl, rfl⟩
  · rw [if_neg h]
    by_cases h2 : 1099511627776 < x + y
    · rw [if_pos h2]; exact Or.inr (Or.inr ⟨hx, by omega, h2, rfl⟩)
    · rw [if_neg h2]; exact Or.inr (Or.inl ⟨hx, by omega, h2, rfl⟩)
theorem cap_neg {x : Int} (hx : 0 ≤ x) : decide (capM x < 0) = decide (1099511627776 < x) := by
  unfold capM
  by_cases h : 1099511627776 < x
  · rw [if_pos h]; simp [h]
  · rw [if_neg h]; simp [h]; omega
set_option maxHeartbeats 40000000 in
set_option maxRecDepth 100000 in
theorem lens6_any {w0 : World} (va : Value) (D0 : List OV) (E : List Op5) (w : World) (hb0 : Below w0.heap.size w0 w) (hrow : RowO w va D0) (hre : ReD w0 D0 E) (hg : ∀ o ∈ E, opE o = 0) (hF : FitL E) (hl : E.length ≤ 2097152) :
    Calls Tryz.prog 108 #[va] w fun r w' => r = .returned (.tuple #[.int .i64 (capM (sumB E)), .int .i64 (capM (sumR E))]) ∧ Below w.heap.size w w' := by
  have hDE := forall2_len hre
  obtain ⟨n, hn⟩ : ∃ n, E.length = n := ⟨_, rfl⟩
  obtain ⟨p, cap, rfl, hcap, hnz, hc⟩ := hrow
  have HR : Hid (∀ k, k < n → ∃ (e : Op5) (b off : Nat) (sp : Option Addr) (sl sc : Nat), E[k]? = some e ∧ p = some ⟨b, off, none⟩ ∧ OpAt w b (off + k * 7) (e.k, e.t, e.v, e.c, (sp, sl, sc)) ∧ RN w0 (.slice sp sl sc) e.A) := fun k hk => by
    obtain ⟨d, hd⟩ : ∃ d, D0[k]? = some d := ⟨_, List.getElem?_eq_getElem (by omega)⟩
    obtain ⟨e, he, h1, h2, h3, h4, h5⟩ := forall2_get hre k d hd
    obtain ⟨b, off, hp, hat⟩ := hc k d hd
    obtain ⟨dk, dt, dv, dc, sp, sl, sc⟩ := d
    simp only at h1 h2 h3 h4
    subst h1; subst h2; subst h3; subst h4
    exact ⟨e, b, off, sp, sl, sc, he, hp, hat, h5⟩
  have HN : Hid (E.length = n ∧ FitL E ∧ ∀ o ∈ E, opE o = 0) := ⟨hn, hF, hg⟩
  have hnl : n ≤ 2097152 := by omega
  rw [hDE, hn] at hcap ⊢
  clear hc hDE hre hnz hn hF hg hl
  go_enter Tryz.func108, Tryz.ntmps108
  go_wp2
  go_loopw [4, 5, 11] (fun bb rr i wr => ∃ (k : Nat), k ≤ n ∧ i = .int .i64 k ∧ bb = .int .i64 (capM (sumB (E.take k))) ∧ rr = .int .i64 (capM (sumR (E.take k))) ∧ Below w.heap.size w wr) (fun _ _ i _ => n - (RowKit.intOf i).toNat)
  case atStart => exact ⟨0, Nat.zero_le _, rfl, by rw [List.take_zero]; rfl, by rw [List.take_zero]; rfl, Below.refl _ _⟩
  case round =>
    obtain ⟨k, hk, rfl, rfl, rfl, hbw⟩ := hrel
    by_cases hlt : k < n
    · have hltI : (k : Int) < n := by omega
      have hk0 : (0 : Int) ≤ (k : Int) := by omega
      obtain ⟨e, b, off, sp, sl, sc, he, rfl, hat, hrn⟩ := HR.out k hlt
      have hem := List.mem_of_getElem? he
      have hfe := HN.out.2.1 e hem
      have hz := HN.out.2.2 e hem
      have hs0 := sums_nn (E := E.take k) (fun o ho => wel_of (HN.out.2.2 o (List.mem_of_mem_take ho)))
      obtain ⟨c0, c1, c2, c3, c4, c5, c6⟩ := hat.below hbw
      have bw : Below wr.heap.size wr (wr.alloc (.cells (opC e (.slice sp sl sc)) 33)) := (Below.refl _ _).alloc (Nat.le_refl _) _
      have HX : Hid (∀ W, Below (wr.alloc (.cells (opC e (.slice sp sl sc)) 33)).heap.size (wr.alloc (.cells (opC e (.slice sp sl sc)) 33)) W → OpAt W wr.heap.size 0 (e.k, e.t, e.v, e.c, (sp, sl, sc)) ∧ Below w.heap.size w W) := fun W hW => ⟨OpAt.below (w := wr.alloc (.cells (opC e (.slice sp sl sc)) 33)) ⟨by simp [opC], by simp [opC], by simp [opC], by simp [opC], by simp [opC], by simp [opC], by simp [opC, slV]⟩ hW, hbw.trans ((bw.trans (hW.mono bw.size)).mono hbw.size)⟩
      have hT : E.take (k + 1) = E.take k ++ [e] := by rw [List.take_add_one, he]; rfl
      have hln := len5_range hz hfe
      have hkk := kinds_of hz
      have cL := len6_any e sp sl sc (wr.alloc (.cells (opC e (.slice sp sl sc)) 33)) hz hfe.t
      have cI := fun W => ins6_any e sp sl sc W
      have hbO : baseO e = if e.k = 3 ∨ e.k = 4 then len5 e else 0 := rfl
      have hrO : resO e = if e.k = 4 then 0 else len5 e := rfl
      have hnb : sumB (E.take (k + 1)) = sumB (E.take k) + baseO e := by rw [hT, sumB_append, sumB_one]
      have hnr : sumR (E.take (k + 1)) = sumR (E.take k) + resO e := by rw [hT, sumR_append, sumR_one]
      have sb := cap_step (x := sumB (E.take k)) (y := baseO e) hs0.1 (base_range hz hfe).1
      have sr := cap_step (x := sumR (E.take k)) (y := resO e) hs0.2 (res_range hz hfe).1
      rw [← hnb] at sb
      rw [← hnr] at sr
      obtain ⟨nb, hnb'⟩ : ∃ x, capM (sumB (E.take (k + 1))) = x := ⟨_, rfl⟩
      obtain ⟨nr, hnr'⟩ : ∃ x, capM (sumR (E.take (k + 1))) = x := ⟨_, rfl⟩
      have HNB := Hid.mk' hnb'
      have HNR := Hid.mk' hnr'
      rw [hnb'] at sb
      rw [hnr'] at sr
      obtain ⟨bs, hbs⟩ : ∃ x, capM (sumB (E.take k)) = x := ⟨_, rfl⟩
      obtain ⟨rs, hrs⟩ : ∃ x, capM (sumR (E.take k)) = x := ⟨_, rfl⟩
      rw [hbs] at sb ⊢
      rw [hrs] at sr ⊢
      rw [hbO] at sb
      rw [hrO] at sr
      obtain ⟨ln, hll⟩ : ∃ x, len5 e = x := ⟨_, rfl⟩
      rw [hll] at hln cL sb sr
      have hln2 : ¬ 1099511627776 < ln := by omega
      clear hz hll hT hem hat hrn bw HR hfe he hbO hrO hnb hnr hnb' hnr' hbs hrs hs0
      obtain ⟨kk, t, ⟨xx, nn, u⟩, cc, A⟩ := e
      simp only [opC, slV] at c0 c1 c2 c3 c4 c5 c6 cL cI hkk HX sb sr
      go_wp2_with fail
      refine cL.mono ?_; rintro r w2 ⟨rfl, hw2⟩
      obtain ⟨⟨d0, d1, d2, d3, d4, d5, d6⟩, b2⟩ := HX.out w2 hw2
      simp only [Nat.zero_add, slV] at d0 d1 d2 d3 d4 d5 d6
      have ci := cI w2
      have HB2 := Hid.mk' b2
      have HU : Hid (∀ W, Below w2.heap.size w2 W → W.cell? ⟨wr.heap.size, 0, none⟩ = some (.int .i64 kk) ∧ Below w.heap.size w W) := fun W hW => ⟨(hW.cell (lt_of_cell d0)).trans d0, b2.trans (hW.mono b2.size)⟩
      clear cL c0 c1 c2 c3 c4 c5 c6 hw2 cI HX b2
      rcases (show (kk = 1 ∨ kk = 2) ∨ kk = 3 ∨ kk = 4 by omega) with hi | hi | hi
      · have hk4 : (kk != 4) = true := by simp; omega
        rw [if_neg (by omega)] at sb
        rw [if_neg (by omega)] at sr
        rw [decide_eq_true hi] at ci
        try simp only [Int.add_zero] at sb
        try simp only [Int.add_zero] at sr
        rcases sb with ⟨b1, b2⟩ | ⟨b1, b2, b3, b4⟩ | ⟨b1, b2, b3, b4⟩ <;> rcases sr with ⟨r1, r2⟩ | ⟨r1, r2, r3, r4⟩ | ⟨r1, r2, r3, r4⟩
        · subst b1; subst b2; subst r1; subst r2
          have HB3 := HB2
          go_wp2
          go_roundw
          case rel => exact ⟨k + 1, by omega, by go_num, by rw [HNB.out], by rw [HNR.out], HB3.out⟩
          case measure => simp [RowKit.intOf]; omega
        · have r5 : ¬ 1099511627776 < rs := by omega
          subst b1; subst b2; subst r4
          have HB3 := HB2
          go_wp2
          go_roundw
          case rel => exact ⟨k + 1, by omega, by go_num, by rw [HNB.out], by rw [HNR.out], HB3.out⟩
          case measure => simp [RowKit.intOf]; omega
        · have r5 : ¬ 1099511627776 < rs := by omega
          subst b1; subst b2; subst r4
          have HB3 := HB2
          go_wp2
          go_roundw
          case rel => exact ⟨k + 1, by omega, by go_num, by rw [HNB.out], by rw [HNR.out], HB3.out⟩
          case measure => simp [RowKit.intOf]; omega
        · have b5 : ¬ 1099511627776 < bs := by omega
          subst b4; subst r1; subst r2
          go_wp2_with fail
          refine ci.mono ?_; rintro r w3 ⟨rfl, hw3⟩
          have d9 := (HU.out w3 hw3).1
          have HB3 := Hid.mk' (HU.out w3 hw3).2
          clear ci hw3 d0 d1 d2 d3 d4 d5 d6 HB2 HU
          go_wp2
          go_roundw
          case rel => exact ⟨k + 1, by omega, by go_num, by rw [HNB.out], by rw [HNR.out], HB3.out⟩
          case measure => simp [RowKit.intOf]; omega
        · have b5 : ¬ 1099511627776 < bs := by omega
          have r5 : ¬ 1099511627776 < rs := by omega
          subst b4; subst r4
          go_wp2_with fail
          refine ci.mono ?_; rintro r w3 ⟨rfl, hw3⟩
          have d9 := (HU.out w3 hw3).1
          have HB3 := Hid.mk' (HU.out w3 hw3).2
          clear ci hw3 d0 d1 d2 d3 d4 d5 d6 HB2 HU
          go_wp2
          go_roundw
          case rel => exact ⟨k + 1, by omega, by go_num, by rw [HNB.out], by rw [HNR.out], HB3.out⟩
          case measure => simp [RowKit.intOf]; omega
        · have b5 : ¬ 1099511627776 < bs := by omega
          have r5 : ¬ 1099511627776 < rs := by omega
          subst b4; subst r4
          go_wp2_with fail
          refine ci.mono ?_; rintro r w3 ⟨rfl, hw3⟩
          have d9 := (HU.out w3 hw3).1
          have HB3 := Hid.mk' (HU.out w3 hw3).2
          clear ci hw3 d0 d1 d2 d3 d4 d5 d6 HB2 HU
          go_wp2
          go_roundw
          case rel => exact ⟨k + 1, by omega, by go_num, by rw [HNB.out], by rw [HNR.out], HB3.out⟩
          case measure => simp [RowKit.intOf]; omega
        · exfalso; omega
        · exfalso; omega
        · exfalso; omega
      · subst hi
        rw [if_pos (by omega)] at sb
        rw [if_neg (by omega)] at sr
        rw [decide_eq_false (by omega)] at ci
        try simp only [Int.add_zero] at sb
        try simp only [Int.add_zero] at sr
        rcases sb with ⟨b1, b2⟩ | ⟨b1, b2, b3, b4⟩ | ⟨b1, b2, b3, b4⟩ <;> rcases sr with ⟨r1, r2⟩ | ⟨r1, r2, r3, r4⟩ | ⟨r1, r2, r3, r4⟩
        · subst b1; subst b2; subst r1; subst r2
          have HB3 := HB2
          go_wp2
          go_roundw
          case rel => exact ⟨k + 1, by omega, by go_num, by rw [HNB.out], by rw [HNR.out], HB3.out⟩
          case measure => simp [RowKit.intOf]; omega
        · have r5 : ¬ 1099511627776 < rs := by omega
          subst b1; subst b2; subst r4
          have HB3 := HB2
          go_wp2
          go_roundw
          case rel => exact ⟨k + 1, by omega, by go_num, by rw [HNB.out], by rw [HNR.out], HB3.out⟩
          case measure => simp [RowKit.intOf]; omega
        · have r5 : ¬ 1099511627776 < rs := by omega
          subst b1; subst b2; subst r4
          have HB3 := HB2
          go_wp2
          go_roundw
          case rel => exact ⟨k + 1, by omega, by go_num, by rw [HNB.out], by rw [HNR.out], HB3.out⟩
          case measure => simp [RowKit.intOf]; omega
        · have b5 : ¬ 1099511627776 < bs := by omega
          subst b4; subst r1; subst r2
          go_wp2_with fail
          refine ci.mono ?_; rintro r w3 ⟨rfl, hw3⟩
          have d9 := (HU.out w3 hw3).1
          have HB3 := Hid.mk' (HU.out w3 hw3).2
          clear ci hw3 d0 d1 d2 d3 d4 d5 d6 HB2 HU
          go_wp2
          go_roundw
          case rel => exact ⟨k + 1, by omega, by go_num, by rw [HNB.out], by rw [HNR.out], HB3.out⟩
          case measure => simp [RowKit.intOf]; omega
        · have b5 : ¬ 1099511627776 < bs := by omega
          have r5 : ¬ 1099511627776 < rs := by omega
          subst b4; subst r4
          go_wp2_with fail
          refine ci.mono ?_; rintro r w3 ⟨rfl, hw3⟩
          have d9 := (HU.out w3 hw3).1
          have HB3 := Hid.mk' (HU.out w3 hw3).2
          clear ci hw3 d0 d1 d2 d3 d4 d5 d6 HB2 HU
          go_wp2
          go_roundw
          case rel => exact ⟨k + 1, by omega, by go_num, by rw [HNB.out], by rw [HNR.out], HB3.out⟩
          case measure => simp [RowKit.intOf]; omega
        · have b5 : ¬ 1099511627776 < bs := by omega
          have r5 : ¬ 1099511627776 < rs := by omega
          subst b4; subst r4
          go_wp2_with fail
          refine ci.mono ?_; rintro r w3 ⟨rfl, hw3⟩
          have d9 := (HU.out w3 hw3).1
          have HB3 := Hid.mk' (HU.out w3 hw3).2
          clear ci hw3 d0 d1 d2 d3 d4 d5 d6 HB2 HU
          go_wp2
          go_roundw
          case rel => exact ⟨k + 1, by omega, by go_num, by rw [HNB.out], by rw [HNR.out], HB3.out⟩
          case measure => simp [RowKit.intOf]; omega
        · have b5 : ¬ 1099511627776 < bs := by omega
          subst b4; subst r1; subst r2
          go_wp2_with fail
          refine ci.mono ?_; rintro r w3 ⟨rfl, hw3⟩
          have d9 := (HU.out w3 hw3).1
          have HB3 := Hid.mk' (HU.out w3 hw3).2
          clear ci hw3 d0 d1 d2 d3 d4 d5 d6 HB2 HU
          go_wp2
          go_roundw
          case rel => exact ⟨k + 1, by omega, by go_num, by rw [HNB.out], by rw [HNR.out], HB3.out⟩
          case measure => simp [RowKit.intOf]; omega
        · have r5 : ¬ 1099511627776 < rs := by omega
          have b5 : ¬ 1099511627776 < bs := by omega
          subst b4; subst r4
          go_wp2_with fail
          refine ci.mono ?_; rintro r w3 ⟨rfl, hw3⟩
          have d9 := (HU.out w3 hw3).1
          have HB3 := Hid.mk' (HU.out w3 hw3).2
          clear ci hw3 d0 d1 d2 d3 d4 d5 d6 HB2 HU
          go_wp2
          go_roundw
          case rel => exact ⟨k + 1, by omega, by go_num, by rw [HNB.out], by rw [HNR.out], HB3.out⟩
          case measure => simp [RowKit.intOf]; omega
        · have b5 : ¬ 1099511627776 < bs := by omega
          have r5 : ¬ 1099511627776 < rs := by omega
          subst b4; subst r4
          go_wp2_with fail
          refine ci.mono ?_; rintro r w3 ⟨rfl, hw3⟩
          have d9 := (HU.out w3 hw3).1
          have HB3 := Hid.mk' (HU.out w3 hw3).2
          clear ci hw3 d0 d1 d2 d3 d4 d5 d6 HB2 HU
          go_wp2
          go_roundw
          case rel => exact ⟨k + 1, by omega, by go_num, by rw [HNB.out], by rw [HNR.out], HB3.out⟩
          case measure => simp [RowKit.intOf]; omega
      · subst hi
        rw [if_pos (by omega)] at sb
        rw [if_pos (by omega)] at sr
        rw [decide_eq_false (by omega)] at ci
        try simp only [Int.add_zero] at sb
        try simp only [Int.add_zero] at sr
        rcases sb with ⟨b1, b2⟩ | ⟨b1, b2, b3, b4⟩ | ⟨b1, b2, b3, b4⟩ <;> rcases sr with ⟨r1, r2⟩ | ⟨r1, r2, r3, r4⟩ | ⟨r1, r2, r3, r4⟩
        · subst b1; subst b2; subst r1; subst r2
          have HB3 := HB2
          go_wp2
          go_roundw
          case rel => exact ⟨k + 1, by omega, by go_num, by rw [HNB.out], by rw [HNR.out], HB3.out⟩
          case measure => simp [RowKit.intOf]; omega
        · have r5 : ¬ 1099511627776 < rs := by omega
          subst b1; subst b2; subst r4
          have HB3 := HB2
          go_wp2
          go_roundw
          case rel => exact ⟨k + 1, by omega, by go_num, by rw [HNB.out], by rw [HNR.out], HB3.out⟩
          case measure => simp [RowKit.intOf]; omega
        · exfalso; omega
        · have b5 : ¬ 1099511627776 < bs := by omega
          subst b4; subst r1; subst r2
          go_wp2_with fail
          refine ci.mono ?_; rintro r w3 ⟨rfl, hw3⟩
          have d9 := (HU.out w3 hw3).1
          have HB3 := Hid.mk' (HU.out w3 hw3).2
          clear ci hw3 d0 d1 d2 d3 d4 d5 d6 HB2 HU
          go_wp2
          go_roundw
          case rel => exact ⟨k + 1, by omega, by go_num, by rw [HNB.out], by rw [HNR.out], HB3.out⟩
          case measure => simp [RowKit.intOf]; omega
        · have b5 : ¬ 1099511627776 < bs := by omega
          have r5 : ¬ 1099511627776 < rs := by omega
          subst b4; subst r4
          go_wp2_with fail
          refine ci.mono ?_; rintro r w3 ⟨rfl, hw3⟩
          have d9 := (HU.out w3 hw3).1
          have HB3 := Hid.mk' (HU.out w3 hw3).2
          clear ci hw3 d0 d1 d2 d3 d4 d5 d6 HB2 HU
          go_wp2
          go_roundw
          case rel => exact ⟨k + 1, by omega, by go_num, by rw [HNB.out], by rw [HNR.out], HB3.out⟩
          case measure => simp [RowKit.intOf]; omega
        · exfalso; omega
        · have b5 : ¬ 1099511627776 < bs := by omega
          subst b4; subst r1; subst r2
          go_wp2_with fail
          refine ci.mono ?_; rintro r w3 ⟨rfl, hw3⟩
          have d9 := (HU.out w3 hw3).1
          have HB3 := Hid.mk' (HU.out w3 hw3).2
          clear ci hw3 d0 d1 d2 d3 d4 d5 d6 HB2 HU
          go_wp2
          go_roundw
          case rel => exact ⟨k + 1, by omega, by go_num, by rw [HNB.out], by rw [HNR.out], HB3.out⟩
          case measure => simp [RowKit.intOf]; omega
        · have r5 : ¬ 1099511627776 < rs := by omega
          have b5 : ¬ 1099511627776 < bs := by omega
          subst b4; subst r4
          go_wp2_with fail
          refine ci.mono ?_; rintro r w3 ⟨rfl, hw3⟩
          have d9 := (HU.out w3 hw3).1
          have HB3 := Hid.mk' (HU.out w3 hw3).2
          clear ci hw3 d0 d1 d2 d3 d4 d5 d6 HB2 HU
          go_wp2
          go_roundw
          case rel => exact ⟨k + 1, by omega, by go_num, by rw [HNB.out], by rw [HNR.out], HB3.out⟩
          case measure => simp [RowKit.intOf]; omega
        · exfalso; omega
    · have hltI : ¬ (k : Int) < n := by omega
      have hE : E.take k = E := List.take_of_length_le (by have := HN.out.1; omega)
      rw [hE]
      clear hE
      go_wp2
      go_ret2
      exact ⟨rfl, hbw⟩
end Go.Proofs.YtalfdjglbbmjcaaGreatDoor

/- The document's deltas: Long. -/
namespace Go.Proofs.YtalfdjglbbmjcaaGreatDoor
open Go Go.RowKit Go.Lib
set_option linter.unusedVariables false

set_option maxHeartbeats 4000000 in
theorem long6_any {w0 : World} (va : Value) (D0 : List OV) (E : List Op5) (w : World) (hb0 : Below w0.heap.size w0 w) (hrow : RowO w va D0) (hre : ReD w0 D0 E) (hg : ∀ o ∈ E, opE o = 0) (hF : FitL E) (hl : E.length ≤ 2097152) :
    Calls Tryz.prog 70 #[va] w fun r w' => r = .returned (.bool (decide (1099511627776 < sumB E ∨ 1099511627776 < sumR E))) ∧ Below w.heap.size w w' := by
  have c1 := lens6_any va D0 E w hb0 hrow hre hg hF hl
  have hs := sums_nn (E := E) (fun o ho => wel_of (hg o ho))
  obtain ⟨b, hb⟩ : ∃ x, sumB E = x := ⟨_, rfl⟩
  obtain ⟨r, hr⟩ : ∃ x, sumR E = x := ⟨_, rfl⟩
  rw [hb, hr] at c1 hs ⊢
  have e1 := cap_neg hs.1
  have e2 := cap_neg hs.2
  have hd : decide (1099511627776 < b ∨ 1099511627776 < r) = (decide (capM b < 0) || decide (capM r < 0)) := by rw [e1, e2]; simp [Bool.decide_or]
  rw [hd]
  obtain ⟨p, cap, rfl, _⟩ := hrow
  obtain ⟨x, hx⟩ : ∃ x, capM b = x := ⟨_, rfl⟩
  obtain ⟨y, hy⟩ : ∃ y, capM r = y := ⟨_, rfl⟩
  rw [hx, hy] at c1 ⊢
  clear hb hr hs e1 e2 hd hx hy hre hg hF hl hb0
  by_cases h : x < 0
  · rw [decide_eq_true h, Bool.true_or]
    go_enter Tryz.func70, Tryz.ntmps70
    go_wp2_with fail
    refine c1.mono ?_; rintro r w1 ⟨rfl, hb1⟩
    clear c1
    go_wp2
    go_ret
    exact ⟨rfl, hb1⟩
  · rw [decide_eq_false h, Bool.false_or]
    go_enter Tryz.func70, Tryz.ntmps70
    go_wp2_with fail
    refine c1.mono ?_; rintro r w1 ⟨rfl, hb1⟩
    clear c1
    go_wp2
    go_ret
    exact ⟨by simp; omega, hb1⟩
end Go.Proofs.YtalfdjglbbmjcaaGreatDoor

/- vellumref06.Lengths and Long of well formed operations whose counts may be above the bound. -/
namespace Go.Proofs.YtalfdjglbbmjcaaGreatDoor
open Go Go.RowKit Go.Lib
set_option linter.unusedVariables false

theorem three_sums' {o : Op5} (h : Wel o) : 0 ≤ baseO o ∧ 0 ≤ resO o := by
  have hk := h.kinds
  have hl : 0 ≤ len5 o := by
    unfold len5
    split
    · omega
    · have := h.count (by omega); omega
  unfold baseO resO
  constructor <;> split <;> omega
theorem insW {o : Op5} (h : Wel o) (hk : o.k = 1 ∨ o.k = 2) : opE o = 0 := by
  rcases h with ⟨hi, _⟩ | ⟨h3, _⟩ | ⟨h4, _⟩
  · exact opE_12 hi hk
  · omega
  · omega
theorem lenW_small {o : Op5} (h : Wel o) (ht : o.t.size ≤ 8388608) (hk : o.k = 1 ∨ o.k = 2) : len5 o ≤ 8388608 := by
  unfold len5 lenO
  rw [if_pos hk]
  split
  · have hu : brk o.t.data.toList = o.t.size := by
      rcases h with ⟨hi, _⟩ | ⟨h3, _⟩ | ⟨h4, _⟩
      · exact hi.utf
      · omega
      · omega
    have := (valid_text o.t hu).2.2
    omega
  · omega
theorem lenW_range {o : Op5} (h : Wel o) (hc : o.c ≤ 2199023255552) (ht : o.t.size ≤ 8388608) : 0 ≤ len5 o ∧ len5 o ≤ 2199023255552 := by
  have h0 := fun hk => lenW_small h ht hk
  by_cases hk : o.k = 1 ∨ o.k = 2
  · have := h0 hk
    have h1 : 0 ≤ len5 o := by unfold len5; rw [if_pos hk]; omega
    omega
  · unfold len5
    rw [if_neg hk]
    have h1 := h.kinds
    have := h.count (by omega)
    omega
set_option maxHeartbeats 1000000 in
theorem len6w_any (o : Op5) (p : Option Addr) (l c : Nat) (w : World) (hw : Wel o) (ht : o.t.size ≤ 8388608) :
    Calls Tryz.prog 113 #[opV o (.slice p l c)] w fun r w' => r = .returned (.int .i64 (len5 o)) ∧ Below w.heap.size w w' := by
  by_cases hk : o.k = 1 ∨ o.k = 2
  · exact len6_any o p l c w (insW hw hk) ht
  · have hkk := hw.kinds
    unfold len5
    rw [if_neg hk]
    obtain ⟨k, t, ⟨x, n, u⟩, cc, A⟩ := o
    simp only at hkk hk
    rcases (show k = 3 ∨ k = 4 by omega) with rfl | rfl
    all_goals
      clear ht hw hk hkk
      go_enter Tryz.func113, Tryz.ntmps113
      go_wp2
      go_ret
      exact ⟨rfl, by go_grown⟩
set_option maxHeartbeats 40000000 in
set_option maxRecDepth 100000 in
theorem lensW_any {w0 : World} (va : Value) (D0 : List OV) (E : List Op5) (w : World) (hb0 : Below w0.heap.size w0 w) (hrow : RowO w va D0) (hre : ReD w0 D0 E) (hw : ∀ o ∈ E, Wel o) (hcc : ∀ o ∈ E, o.c ≤ 2199023255552) (ht : ∀ o ∈ E, o.t.size ≤ 8388608) (hl : E.length ≤ 2097152) :
    Calls Tryz.prog 108 #[va] w fun r w' => r = .returned (.tuple #[.int .i64 (capM (sumB E)), .int .i64 (capM (sumR E))]) ∧ Below w.heap.size w w' := by
  have hDE := forall2_len hre
  obtain ⟨n, hn⟩ : ∃ n, E.length = n := ⟨_, rfl⟩
  obtain ⟨p, cap, rfl, hcap, hnz, hc⟩ := hrow
  have HR : Hid (∀ k, k < n → ∃ (e : Op5) (b off : Nat) (sp : Option Addr) (sl sc : Nat), E[k]? = some e ∧ p = some ⟨b, off, none⟩ ∧ OpAt w b (off + k * 7) (e.k, e.t, e.v, e.c, (sp, sl, sc)) ∧ RN w0 (.slice sp sl sc) e.A) := fun k hk => by
    obtain ⟨d, hd⟩ : ∃ d, D0[k]? = some d := ⟨_, List.getElem?_eq_getElem (by omega)⟩
    obtain ⟨e, he, h1, h2, h3, h4, h5⟩ := forall2_get hre k d hd
    obtain ⟨b, off, hp, hat⟩ := hc k d hd
    obtain ⟨dk, dt, dv, dc, sp, sl, sc⟩ := d
    simp only at h1 h2 h3 h4
    subst h1; subst h2; subst h3; subst h4
    exact ⟨e, b, off, sp, sl, sc, he, hp, hat, h5⟩
  have HN : Hid (E.length = n ∧ (∀ o ∈ E, o.c ≤ 2199023255552 ∧ o.t.size ≤ 8388608) ∧ ∀ o ∈ E, Wel o) := ⟨hn, fun o ho => ⟨hcc o ho, ht o ho⟩, hw⟩
  have hnl : n ≤ 2097152 := by omega
  rw [hDE, hn] at hcap ⊢
  clear hc hDE hre hnz hn hcc ht hw hl
  go_enter Tryz.func108, Tryz.ntmps108
  go_wp2
  go_loopw [4, 5, 11] (fun bb rr i wr => ∃ (k : Nat), k ≤ n ∧ i = .int .i64 k ∧ bb = .int .i64 (capM (sumB (E.take k))) ∧ rr = .int .i64 (capM (sumR (E.take k))) ∧ Below w.heap.size w wr) (fun _ _ i _ => n - (RowKit.intOf i).toNat)
  case atStart => exact ⟨0, Nat.zero_le _, rfl, by rw [List.take_zero]; rfl, by rw [List.take_zero]; rfl, Below.refl _ _⟩
  case round =>
    obtain ⟨k, hk, rfl, rfl, rfl, hbw⟩ := hrel
    by_cases hlt : k < n
    · have hltI : (k : Int) < n := by omega
      have hk0 : (0 : Int) ≤ (k : Int) := by omega
      obtain ⟨e, b, off, sp, sl, sc, he, rfl, hat, hrn⟩ := HR.out k hlt
      have hem := List.mem_of_getElem? he
      have hfe := HN.out.2.1 e hem
      have hz := HN.out.2.2 e hem
      have hs0 := sums_nn (E := E.take k) (fun o ho => HN.out.2.2 o (List.mem_of_mem_take ho))
      obtain ⟨c0, c1, c2, c3, c4, c5, c6⟩ := hat.below hbw
      have bw : Below wr.heap.size wr (wr.alloc (.cells (opC e (.slice sp sl sc)) 33)) := (Below.refl _ _).alloc (Nat.le_refl _) _
      have HX : Hid (∀ W, Below (wr.alloc (.cells (opC e (.slice sp sl sc)) 33)).heap.size (wr.alloc (.cells (opC e (.slice sp sl sc)) 33)) W → OpAt W wr.heap.size 0 (e.k, e.t, e.v, e.c, (sp, sl, sc)) ∧ Below w.heap.size w W) := fun W hW => ⟨OpAt.below (w := wr.alloc (.cells (opC e (.slice sp sl sc)) 33)) ⟨by simp [opC], by simp [opC], by simp [opC], by simp [opC], by simp [opC], by simp [opC], by simp [opC, slV]⟩ hW, hbw.trans ((bw.trans (hW.mono bw.size)).mono hbw.size)⟩
      have hT : E.take (k + 1) = E.take k ++ [e] := by rw [List.take_add_one, he]; rfl
      have hln := lenW_range hz hfe.1 hfe.2
      have hkk := hz.kinds
      have hsmall := fun h => lenW_small hz hfe.2 h
      have cL := len6w_any e sp sl sc (wr.alloc (.cells (opC e (.slice sp sl sc)) 33)) hz hfe.2
      have cI := fun W => ins6_any e sp sl sc W
      have hbO : baseO e = if e.k = 3 ∨ e.k = 4 then len5 e else 0 := rfl
      have hrO : resO e = if e.k = 4 then 0 else len5 e := rfl
      have hnb : sumB (E.take (k + 1)) = sumB (E.take k) + baseO e := by rw [hT, sumB_append, sumB_one]
      have hnr : sumR (E.take (k + 1)) = sumR (E.take k) + resO e := by rw [hT, sumR_append, sumR_one]
      have sb := cap_step (x := sumB (E.take k)) (y := baseO e) hs0.1 (by have := three_sums' hz; omega)
      have sr := cap_step (x := sumR (E.take k)) (y := resO e) hs0.2 (by have := three_sums' hz; omega)
      rw [← hnb] at sb
      rw [← hnr] at sr
      obtain ⟨nb, hnb'⟩ : ∃ x, capM (sumB (E.take (k + 1))) = x := ⟨_, rfl⟩
      obtain ⟨nr, hnr'⟩ : ∃ x, capM (sumR (E.take (k + 1))) = x := ⟨_, rfl⟩
      have HNB := Hid.mk' hnb'
      have HNR := Hid.mk' hnr'
      rw [hnb'] at sb
      rw [hnr'] at sr
      obtain ⟨bs, hbs⟩ : ∃ x, capM (sumB (E.take k)) = x := ⟨_, rfl⟩
      obtain ⟨rs, hrs⟩ : ∃ x, capM (sumR (E.take k)) = x := ⟨_, rfl⟩
      rw [hbs] at sb ⊢
      rw [hrs] at sr ⊢
      rw [hbO] at sb
      rw [hrO] at sr
      obtain ⟨ln, hll⟩ : ∃ x, len5 e = x := ⟨_, rfl⟩
      rw [hll] at hln cL sb sr hsmall
      clear hz hll hT hem hat hrn bw HR hfe he hbO hrO hnb hnr hnb' hnr' hbs hrs hs0
      obtain ⟨kk, t, ⟨xx, nn, u⟩, cc, A⟩ := e
      simp only [opC, slV] at c0 c1 c2 c3 c4 c5 c6 cL cI hkk HX sb sr hsmall
      go_wp2_with fail
      refine cL.mono ?_; rintro r w2 ⟨rfl, hw2⟩
      obtain ⟨⟨d0, d1, d2, d3, d4, d5, d6⟩, b2⟩ := HX.out w2 hw2
      simp only [Nat.zero_add, slV] at d0 d1 d2 d3 d4 d5 d6
      have ci := cI w2
      have HB2 := Hid.mk' b2
      have HU : Hid (∀ W, Below w2.heap.size w2 W → W.cell? ⟨wr.heap.size, 0, none⟩ = some (.int .i64 kk) ∧ Below w.heap.size w W) := fun W hW => ⟨(hW.cell (lt_of_cell d0)).trans d0, b2.trans (hW.mono b2.size)⟩
      clear cL c0 c1 c2 c3 c4 c5 c6 hw2 cI HX b2
      by_cases hln2 : 1099511627776 < ln
      · rcases (show kk = 3 ∨ kk = 4 by have := fun h => hsmall h; omega) with hi | hi
        · subst hi
          clear hsmall
          rw [if_pos (by omega)] at sb
          rw [if_neg (by omega)] at sr
          rw [decide_eq_false (by omega)] at ci
          replace sb : (bs = -1 ∧ nb = -1) ∨ (0 ≤ bs ∧ bs ≤ 1099511627776 ∧ 1099511627776 < bs + 1099511627777 ∧ nb = -1) := by omega
          replace sr : (rs = -1 ∧ nr = -1) ∨ (0 ≤ rs ∧ rs ≤ 1099511627776 ∧ 1099511627776 < rs + 1099511627777 ∧ nr = -1) := by omega
          rcases sb with ⟨b1, b2⟩ | ⟨b1, b2, b3, b4⟩ <;> rcases sr with ⟨r1, r2⟩ | ⟨r1, r2, r3, r4⟩
          · subst b1; subst b2; subst r1; subst r2
            have HB3 := HB2
            go_wp2
            go_roundw
            case rel => exact ⟨k + 1, by omega, by go_num, by rw [HNB.out], by rw [HNR.out], HB3.out⟩
            case measure => simp [RowKit.intOf]; omega
          · subst b1; subst b2; subst r4
            have HB3 := HB2
            go_wp2
            go_roundw
            case rel => exact ⟨k + 1, by omega, by go_num, by rw [HNB.out], by rw [HNR.out], HB3.out⟩
            case measure => simp [RowKit.intOf]; omega
          · subst b4; subst r1; subst r2
            go_wp2_with fail
            refine ci.mono ?_; rintro r w3 ⟨rfl, hw3⟩
            have d9 := (HU.out w3 hw3).1
            have HB3 := Hid.mk' (HU.out w3 hw3).2
            clear ci hw3 d0 d1 d2 d3 d4 d5 d6 HB2 HU
            go_wp2
            go_roundw
            case rel => exact ⟨k + 1, by omega, by go_num, by rw [HNB.out], by rw [HNR.out], HB3.out⟩
            case measure => simp [RowKit.intOf]; omega
          · subst b4; subst r4
            go_wp2_with fail
            refine ci.mono ?_; rintro r w3 ⟨rfl, hw3⟩
            have d9 := (HU.out w3 hw3).1
            have HB3 := Hid.mk' (HU.out w3 hw3).2
            clear ci hw3 d0 d1 d2 d3 d4 d5 d6 HB2 HU
            go_wp2
            go_roundw
            case rel => exact ⟨k + 1, by omega, by go_num, by rw [HNB.out], by rw [HNR.out], HB3.out⟩
            case measure => simp [RowKit.intOf]; omega
        · subst hi
          clear hsmall
          rw [if_pos (by omega)] at sb
          rw [if_pos (by omega)] at sr
          rw [decide_eq_false (by omega)] at ci
          replace sb : (bs = -1 ∧ nb = -1) ∨ (0 ≤ bs ∧ bs ≤ 1099511627776 ∧ 1099511627776 < bs + 1099511627777 ∧ nb = -1) := by omega
          replace sr : (rs = -1 ∧ nr = -1) ∨ (0 ≤ rs ∧ rs ≤ 1099511627776 ∧ ¬ 1099511627776 < rs ∧ nr = rs) := by omega
          rcases sb with ⟨b1, b2⟩ | ⟨b1, b2, b3, b4⟩ <;> rcases sr with ⟨r1, r2⟩ | ⟨r1, r2, r3, r4⟩
          · subst b1; subst b2; subst r1; subst r2
            have HB3 := HB2
            go_wp2
            go_roundw
            case rel => exact ⟨k + 1, by omega, by go_num, by rw [HNB.out], by rw [HNR.out], HB3.out⟩
            case measure => simp [RowKit.intOf]; omega
          · subst b1; subst b2; subst r4
            have HB3 := HB2
            go_wp2
            go_roundw
            case rel => exact ⟨k + 1, by omega, by go_num, by rw [HNB.out], by rw [HNR.out], HB3.out⟩
            case measure => simp [RowKit.intOf]; omega
          · subst b4; subst r1; subst r2
            go_wp2_with fail
            refine ci.mono ?_; rintro r w3 ⟨rfl, hw3⟩
            have d9 := (HU.out w3 hw3).1
            have HB3 := Hid.mk' (HU.out w3 hw3).2
            clear ci hw3 d0 d1 d2 d3 d4 d5 d6 HB2 HU
            go_wp2
            go_roundw
            case rel => exact ⟨k + 1, by omega, by go_num, by rw [HNB.out], by rw [HNR.out], HB3.out⟩
            case measure => simp [RowKit.intOf]; omega
          · subst b4; subst r4
            go_wp2_with fail
            refine ci.mono ?_; rintro r w3 ⟨rfl, hw3⟩
            have d9 := (HU.out w3 hw3).1
            have HB3 := Hid.mk' (HU.out w3 hw3).2
            clear ci hw3 d0 d1 d2 d3 d4 d5 d6 HB2 HU
            go_wp2
            go_roundw
            case rel => exact ⟨k + 1, by omega, by go_num, by rw [HNB.out], by rw [HNR.out], HB3.out⟩
            case measure => simp [RowKit.intOf]; omega
      · clear hsmall
        rcases (show (kk = 1 ∨ kk = 2) ∨ kk = 3 ∨ kk = 4 by omega) with hi | hi | hi
        · have hk4 : (kk != 4) = true := by simp; omega
          rw [if_neg (by omega)] at sb
          rw [if_neg (by omega)] at sr
          rw [decide_eq_true hi] at ci
          try simp only [Int.add_zero] at sb
          try simp only [Int.add_zero] at sr
          rcases sb with ⟨b1, b2⟩ | ⟨b1, b2, b3, b4⟩ | ⟨b1, b2, b3, b4⟩ <;> rcases sr with ⟨r1, r2⟩ | ⟨r1, r2, r3, r4⟩ | ⟨r1, r2, r3, r4⟩
          · subst b1; subst b2; subst r1; subst r2
            have HB3 := HB2
            go_wp2
            go_roundw
            case rel => exact ⟨k + 1, by omega, by go_num, by rw [HNB.out], by rw [HNR.out], HB3.out⟩
            case measure => simp [RowKit.intOf]; omega
          · have r5 : ¬ 1099511627776 < rs := by omega
            subst b1; subst b2; subst r4
            have HB3 := HB2
            go_wp2
            go_roundw
            case rel => exact ⟨k + 1, by omega, by go_num, by rw [HNB.out], by rw [HNR.out], HB3.out⟩
            case measure => simp [RowKit.intOf]; omega
          · have r5 : ¬ 1099511627776 < rs := by omega
            subst b1; subst b2; subst r4
            have HB3 := HB2
            go_wp2
            go_roundw
            case rel => exact ⟨k + 1, by omega, by go_num, by rw [HNB.out], by rw [HNR.out], HB3.out⟩
            case measure => simp [RowKit.intOf]; omega
          · have b5 : ¬ 1099511627776 < bs := by omega
            subst b4; subst r1; subst r2
            go_wp2_with fail
            refine ci.mono ?_; rintro r w3 ⟨rfl, hw3⟩
            have d9 := (HU.out w3 hw3).1
            have HB3 := Hid.mk' (HU.out w3 hw3).2
            clear ci hw3 d0 d1 d2 d3 d4 d5 d6 HB2 HU
            go_wp2
            go_roundw
            case rel => exact ⟨k + 1, by omega, by go_num, by rw [HNB.out], by rw [HNR.out], HB3.out⟩
            case measure => simp [RowKit.intOf]; omega
          · have b5 : ¬ 1099511627776 < bs := by omega
            have r5 : ¬ 1099511627776 < rs := by omega
            subst b4; subst r4
            go_wp2_with fail
            refine ci.mono ?_; rintro r w3 ⟨rfl, hw3⟩
            have d9 := (HU.out w3 hw3).1
            have HB3 := Hid.mk' (HU.out w3 hw3).2
            clear ci hw3 d0 d1 d2 d3 d4 d5 d6 HB2 HU
            go_wp2
            go_roundw
            case rel => exact ⟨k + 1, by omega, by go_num, by rw [HNB.out], by rw [HNR.out], HB3.out⟩
            case measure => simp [RowKit.intOf]; omega
          · have b5 : ¬ 1099511627776 < bs := by omega
            have r5 : ¬ 1099511627776 < rs := by omega
            subst b4; subst r4
            go_wp2_with fail
            refine ci.mono ?_; rintro r w3 ⟨rfl, hw3⟩
            have d9 := (HU.out w3 hw3).1
            have HB3 := Hid.mk' (HU.out w3 hw3).2
            clear ci hw3 d0 d1 d2 d3 d4 d5 d6 HB2 HU
            go_wp2
            go_roundw
            case rel => exact ⟨k + 1, by omega, by go_num, by rw [HNB.out], by rw [HNR.out], HB3.out⟩
            case measure => simp [RowKit.intOf]; omega
          · exfalso; omega
          · exfalso; omega
          · exfalso; omega
        · subst hi
          rw [if_pos (by omega)] at sb
          rw [if_neg (by omega)] at sr
          rw [decide_eq_false (by omega)] at ci
          try simp only [Int.add_zero] at sb
          try simp only [Int.add_zero] at sr
          rcases sb with ⟨b1, b2⟩ | ⟨b1, b2, b3, b4⟩ | ⟨b1, b2, b3, b4⟩ <;> rcases sr with ⟨r1, r2⟩ | ⟨r1, r2, r3, r4⟩ | ⟨r1, r2, r3, r4⟩
          · subst b1; subst b2; subst r1; subst r2
            have HB3 := HB2
            go_wp2
            go_roundw
            case rel => exact ⟨k + 1, by omega, by go_num, by rw [HNB.out], by rw [HNR.out], HB3.out⟩
            case measure => simp [RowKit.intOf]; omega
          · have r5 : ¬ 1099511627776 < rs := by omega
            subst b1; subst b2; subst r4
            have HB3 := HB2
            go_wp2
            go_roundw
            case rel => exact ⟨k + 1, by omega, by go_num, by rw [HNB.out], by rw [HNR.out], HB3.out⟩
            case measure => simp [RowKit.intOf]; omega
          · have r5 : ¬ 1099511627776 < rs := by omega
            subst b1; subst b2; subst r4
            have HB3 := HB2
            go_wp2
            go_roundw
            case rel => exact ⟨k + 1, by omega, by go_num, by rw [HNB.out], by rw [HNR.out], HB3.out⟩
            case measure => simp [RowKit.intOf]; omega
          · have b5 : ¬ 1099511627776 < bs := by omega
            subst b4; subst r1; subst r2
            go_wp2_with fail
            refine ci.mono ?_; rintro r w3 ⟨rfl, hw3⟩
            have d9 := (HU.out w3 hw3).1
            have HB3 := Hid.mk' (HU.out w3 hw3).2
            clear ci hw3 d0 d1 d2 d3 d4 d5 d6 HB2 HU
            go_wp2
            go_roundw
            case rel => exact ⟨k + 1, by omega, by go_num, by rw [HNB.out], by rw [HNR.out], HB3.out⟩
            case measure => simp [RowKit.intOf]; omega
          · have b5 : ¬ 1099511627776 < bs := by omega
            have r5 : ¬ 1099511627776 < rs := by omega
            subst b4; subst r4
            go_wp2_with fail
            refine ci.mono ?_; rintro r w3 ⟨rfl, hw3⟩
            have d9 := (HU.out w3 hw3).1
            have HB3 := Hid.mk' (HU.out w3 hw3).2
            clear ci hw3 d0 d1 d2 d3 d4 d5 d6 HB2 HU
            go_wp2
            go_roundw
            case rel => exact ⟨k + 1, by omega, by go_num, by rw [HNB.out], by rw [HNR.out], HB3.out⟩
            case measure => simp [RowKit.intOf]; omega
          · have b5 : ¬ 1099511627776 < bs := by omega
            have r5 : ¬ 1099511627776 < rs := by omega
            subst b4; subst r4
            go_wp2_with fail
            refine ci.mono ?_; rintro r w3 ⟨rfl, hw3⟩
            have d9 := (HU.out w3 hw3).1
            have HB3 := Hid.mk' (HU.out w3 hw3).2
            clear ci hw3 d0 d1 d2 d3 d4 d5 d6 HB2 HU
            go_wp2
            go_roundw
            case rel => exact ⟨k + 1, by omega, by go_num, by rw [HNB.out], by rw [HNR.out], HB3.out⟩
            case measure => simp [RowKit.intOf]; omega
          · have b5 : ¬ 1099511627776 < bs := by omega
            subst b4; subst r1; subst r2
            go_wp2_with fail
            refine ci.mono ?_; rintro r w3 ⟨rfl, hw3⟩
            have d9 := (HU.out w3 hw3).1
            have HB3 := Hid.mk' (HU.out w3 hw3).2
            clear ci hw3 d0 d1 d2 d3 d4 d5 d6 HB2 HU
            go_wp2
            go_roundw
            case rel => exact ⟨k + 1, by omega, by go_num, by rw [HNB.out], by rw [HNR.out], HB3.out⟩
            case measure => simp [RowKit.intOf]; omega
          · have r5 : ¬ 1099511627776 < rs := by omega
            have b5 : ¬ 1099511627776 < bs := by omega
            subst b4; subst r4
            go_wp2_with fail
            refine ci.mono ?_; rintro r w3 ⟨rfl, hw3⟩
            have d9 := (HU.out w3 hw3).1
            have HB3 := Hid.mk' (HU.out w3 hw3).2
            clear ci hw3 d0 d1 d2 d3 d4 d5 d6 HB2 HU
            go_wp2
            go_roundw
            case rel => exact ⟨k + 1, by omega, by go_num, by rw [HNB.out], by rw [HNR.out], HB3.out⟩
            case measure => simp [RowKit.intOf]; omega
          · have b5 : ¬ 1099511627776 < bs := by omega
            have r5 : ¬ 1099511627776 < rs := by omega
            subst b4; subst r4
            go_wp2_with fail
            refine ci.mono ?_; rintro r w3 ⟨rfl, hw3⟩
            have d9 := (HU.out w3 hw3).1
            have HB3 := Hid.mk' (HU.out w3 hw3).2
            clear ci hw3 d0 d1 d2 d3 d4 d5 d6 HB2 HU
            go_wp2
            go_roundw
            case rel => exact ⟨k + 1, by omega, by go_num, by rw [HNB.out], by rw [HNR.out], HB3.out⟩
            case measure => simp [RowKit.intOf]; omega
        · subst hi
          rw [if_pos (by omega)] at sb
          rw [if_pos (by omega)] at sr
          rw [decide_eq_false (by omega)] at ci
          try simp only [Int.add_zero] at sb
          try simp only [Int.add_zero] at sr
          rcases sb with ⟨b1, b2⟩ | ⟨b1, b2, b3, b4⟩ | ⟨b1, b2, b3, b4⟩ <;> rcases sr with ⟨r1, r2⟩ | ⟨r1, r2, r3, r4⟩ | ⟨r1, r2, r3, r4⟩
          · subst b1; subst b2; subst r1; subst r2
            have HB3 := HB2
            go_wp2
            go_roundw
            case rel => exact ⟨k + 1, by omega, by go_num, by rw [HNB.out], by rw [HNR.out], HB3.out⟩
            case measure => simp [RowKit.intOf]; omega
          · have r5 : ¬ 1099511627776 < rs := by omega
            subst b1; subst b2; subst r4
            have HB3 := HB2
            go_wp2
            go_roundw
            case rel => exact ⟨k + 1, by omega, by go_num, by rw [HNB.out], by rw [HNR.out], HB3.out⟩
            case measure => simp [RowKit.intOf]; omega
          · exfalso; omega
          · have b5 : ¬ 1099511627776 < bs := by omega
            subst b4; subst r1; subst r2
            go_wp2_with fail
            refine ci.mono ?_; rintro r w3 ⟨rfl, hw3⟩
            have d9 := (HU.out w3 hw3).1
            have HB3 := Hid.mk' (HU.out w3 hw3).2
            clear ci hw3 d0 d1 d2 d3 d4 d5 d6 HB2 HU
            go_wp2
            go_roundw
            case rel => exact ⟨k + 1, by omega, by go_num, by rw [HNB.out], by rw [HNR.out], HB3.out⟩
            case measure => simp [RowKit.intOf]; omega
          · have b5 : ¬ 1099511627776 < bs := by omega
            have r5 : ¬ 1099511627776 < rs := by omega
            subst b4; subst r4
            go_wp2_with fail
            refine ci.mono ?_; rintro r w3 ⟨rfl, hw3⟩
            have d9 := (HU.out w3 hw3).1
            have HB3 := Hid.mk' (HU.out w3 hw3).2
            clear ci hw3 d0 d1 d2 d3 d4 d5 d6 HB2 HU
            go_wp2
            go_roundw
            case rel => exact ⟨k + 1, by omega, by go_num, by rw [HNB.out], by rw [HNR.out], HB3.out⟩
            case measure => simp [RowKit.intOf]; omega
          · exfalso; omega
          · have b5 : ¬ 1099511627776 < bs := by omega
            subst b4; subst r1; subst r2
            go_wp2_with fail
            refine ci.mono ?_; rintro r w3 ⟨rfl, hw3⟩
            have d9 := (HU.out w3 hw3).1
            have HB3 := Hid.mk' (HU.out w3 hw3).2
            clear ci hw3 d0 d1 d2 d3 d4 d5 d6 HB2 HU
            go_wp2
            go_roundw
            case rel => exact ⟨k + 1, by omega, by go_num, by rw [HNB.out], by rw [HNR.out], HB3.out⟩
            case measure => simp [RowKit.intOf]; omega
          · have r5 : ¬ 1099511627776 < rs := by omega
            have b5 : ¬ 1099511627776 < bs := by omega
            subst b4; subst r4
            go_wp2_with fail
            refine ci.mono ?_; rintro r w3 ⟨rfl, hw3⟩
            have d9 := (HU.out w3 hw3).1
            have HB3 := Hid.mk' (HU.out w3 hw3).2
            clear ci hw3 d0 d1 d2 d3 d4 d5 d6 HB2 HU
            go_wp2
            go_roundw
            case rel => exact ⟨k + 1, by omega, by go_num, by rw [HNB.out], by rw [HNR.out], HB3.out⟩
            case measure => simp [RowKit.intOf]; omega
          · exfalso; omega
    · have hltI : ¬ (k : Int) < n := by omega
      have hE : E.take k = E := List.take_of_length_le (by have := HN.out.1; omega)
      rw [hE]
      clear hE
      go_wp2
      go_ret2
      exact ⟨rfl, hbw⟩
set_option maxHeartbeats 4000000 in
theorem longW_any {w0 : World} (va : Value) (D0 : List OV) (E : List Op5) (w : World) (hb0 : Below w0.heap.size w0 w) (hrow : RowO w va D0) (hre : ReD w0 D0 E) (hw : ∀ o ∈ E, Wel o) (hcc : ∀ o ∈ E, o.c ≤ 2199023255552) (ht : ∀ o ∈ E, o.t.size ≤ 8388608) (hl : E.length ≤ 2097152) :
    Calls Tryz.prog 70 #[va] w fun r w' => r = .returned (.bool (decide (1099511627776 < sumB E ∨ 1099511627776 < sumR E))) ∧ Below w.heap.size w w' := by
  have c1 := lensW_any va D0 E w hb0 hrow hre hw hcc ht hl
  have hs := sums_nn (E := E) hw
  obtain ⟨b, hb⟩ : ∃ x, sumB E = x := ⟨_, rfl⟩
  obtain ⟨r, hr⟩ : ∃ x, sumR E = x := ⟨_, rfl⟩
  rw [hb, hr] at c1 hs ⊢
  have e1 := cap_neg hs.1
  have e2 := cap_neg hs.2
  have hd : decide (1099511627776 < b ∨ 1099511627776 < r) = (decide (capM b < 0) || decide (capM r < 0)) := by rw [e1, e2]; simp [Bool.decide_or]
  rw [hd]
  obtain ⟨p, cap, rfl, _⟩ := hrow
  obtain ⟨x, hx⟩ : ∃ x, capM b = x := ⟨_, rfl⟩
  obtain ⟨y, hy⟩ : ∃ y, capM r = y := ⟨_, rfl⟩
  rw [hx, hy] at c1 ⊢
  clear hb hr hs e1 e2 hd hx hy hre hw hcc ht hl hb0
  by_cases h : x < 0
  · rw [decide_eq_true h, Bool.true_or]
    go_enter Tryz.func70, Tryz.ntmps70
    go_wp2_with fail
    refine c1.mono ?_; rintro r w1 ⟨rfl, hb1⟩
    clear c1
    go_wp2
    go_ret
    exact ⟨rfl, hb1⟩
  · rw [decide_eq_false h, Bool.false_or]
    go_enter Tryz.func70, Tryz.ntmps70
    go_wp2_with fail
    refine c1.mono ?_; rintro r w1 ⟨rfl, hb1⟩
    clear c1
    go_wp2
    go_ret
    exact ⟨by simp; omega, hb1⟩
end Go.Proofs.YtalfdjglbbmjcaaGreatDoor

/- The errors' numbers: what vellumnum.list and vellumnum.Num answer where all nineteen sentinels lie as laid. -/
namespace Go.Proofs.YtalfdjglbbmjcaaGreatDoor
open Go Go.RowKit
set_option linter.unusedVariables false

/-- All nineteen. -/
def all19 : List Nat := List.range 19
abbrev Sent (a : Nat → Addr) (w : World) : Prop := Er all19 a w
theorem in19 {i : Nat} (h : i < 19) : i ∈ all19 := List.mem_range.2 h
def errA (a : Nat → Addr) : Array Value := #[errV a 0, errV a 1, errV a 2, errV a 3, errV a 4, errV a 5, errV a 6, errV a 7, errV a 8, errV a 9, errV a 10, errV a 11, errV a 12, errV a 13, errV a 14, errV a 15, errV a 16, errV a 17, errV a 18]

theorem wl_build (a : Nat → Addr) {ops : Array Oper} {rest : List Oper} {o : Oper} {A : Act} {w : World} {Q : Exit → Act → World → Prop} (hg : o.guard = none) (parts : Array (Nat × Operand)) (ho : o.op = .build 117 parts)
    (hp : (parts.map fun (i, x) => (i, A.eval x)) = #[(0, errV a 0), (1, errV a 1), (2, errV a 2), (3, errV a 3), (4, errV a 4), (5, errV a 5), (6, errV a 6), (7, errV a 7), (8, errV a 8), (9, errV a 9), (10, errV a 10), (11, errV a 11), (12, errV a 12), (13, errV a 13), (14, errV a 14), (15, errV a 15), (16, errV a 16), (17, errV a 17), (18, errV a 18)])
    (h : wpList Tryz.prog ops Q rest (A.put o.dst (.agg (errA a))) w) : wpList Tryz.prog ops Q (o :: rest) A w := by
  have hb : Tryz.prog.built 117 (parts.map fun (i, x) => (i, A.eval x)).toList = some (errA a) := by rw [hp]; kernel_rfl
  refine wpList_build hg 117 parts ho (by rw [hb]; rfl) ?_
  rw [hb]; exact h

theorem alloc_setRow (w : World) (old cs : Array Value) (t : TypeId) : (w.alloc (.cells old t)).setRow w.heap.size cs = w.alloc (.cells cs t) := by
  have : ((w.heap.push (.cells old t)).modify w.heap.size fun | .cells _ t f => .cells cs t f | o => o) = w.heap.push (.cells cs t) := by
    apply Array.ext
    · simp
    · intro i h1 h2
      rw [Array.getElem_modify]
      by_cases hi : w.heap.size = i
      · subst hi; simp
      · rw [if_neg hi]
        have : i < w.heap.size := by simp at h2; omega
        simp [Array.getElem_push, this]
  show { w with heap := (w.heap.push (.cells old t)).modify w.heap.size _ } = { w with heap := w.heap.push _ }
  rw [← this]; rfl

theorem wl_store (a : Nat → Addr) {ops : Array Oper} {rest : List Oper} {o : Oper} {A : Act} {w : World} {Q : Exit → Act → World → Prop} {old : Array Value} (hg : o.guard = none) (x y : Operand) (ho : o.op = .store 117 x y)
    (hx : A.eval x = .pointer (some ⟨w.heap.size, 0, none⟩)) (hy : A.eval y = .agg (errA a)) (hold : old.size = 19)
    (h : wpList Tryz.prog ops Q rest (A.put o.dst undef) (w.alloc (.cells (errA a) 117))) : wpList Tryz.prog ops Q (o :: rest) A (w.alloc (.cells old 117)) := by
  refine wpList_store_row hg 117 x y ho w.heap.size (errA a) hx hy 117 old (by show (w.heap.push _)[w.heap.size]? = _; simp) (by kernel_rfl) (by rw [hold]; rfl) (by kernel_rfl) ?_
  rw [alloc_setRow]; exact h

set_option maxHeartbeats 400000 in
set_option maxRecDepth 100000 in
theorem list_any (a : Nat → Addr) (w : World) (h : ∀ i, i < 19 → w.cell? ⟨[3, 4, 5, 6, 7, 8, 9, 10, 2, 11, 12, 1, 13, 14, 15, 16, 17, 0, 18].getD i 0, 0, none⟩ = some (errV a i)) :
    Calls Tryz.prog 71 #[] w fun e w' => e = .returned (.agg (errA a)) ∧ Below w.heap.size w w' := by
  have h0 : w.cell? ⟨3, 0, none⟩ = some (errV a 0) := h 0 (by omega)
  have h1 : w.cell? ⟨4, 0, none⟩ = some (errV a 1) := h 1 (by omega)
  have h2 : w.cell? ⟨5, 0, none⟩ = some (errV a 2) := h 2 (by omega)
  have h3 : w.cell? ⟨6, 0, none⟩ = some (errV a 3) := h 3 (by omega)
  have h4 : w.cell? ⟨7, 0, none⟩ = some (errV a 4) := h 4 (by omega)
  have h5 : w.cell? ⟨8, 0, none⟩ = some (errV a 5) := h 5 (by omega)
  have h6 : w.cell? ⟨9, 0, none⟩ = some (errV a 6) := h 6 (by omega)
  have h7 : w.cell? ⟨10, 0, none⟩ = some (errV a 7) := h 7 (by omega)
  have h8 : w.cell? ⟨2, 0, none⟩ = some (errV a 8) := h 8 (by omega)
  have h9 : w.cell? ⟨11, 0, none⟩ = some (errV a 9) := h 9 (by omega)
  have h10 : w.cell? ⟨12, 0, none⟩ = some (errV a 10) := h 10 (by omega)
  have h11 : w.cell? ⟨1, 0, none⟩ = some (errV a 11) := h 11 (by omega)
  have h12 : w.cell? ⟨13, 0, none⟩ = some (errV a 12) := h 12 (by omega)
  have h13 : w.cell? ⟨14, 0, none⟩ = some (errV a 13) := h 13 (by omega)
  have h14 : w.cell? ⟨15, 0, none⟩ = some (errV a 14) := h 14 (by omega)
  have h15 : w.cell? ⟨16, 0, none⟩ = some (errV a 15) := h 15 (by omega)
  have h16 : w.cell? ⟨17, 0, none⟩ = some (errV a 16) := h 16 (by omega)
  have h17 : w.cell? ⟨0, 0, none⟩ = some (errV a 17) := h 17 (by omega)
  have h18 : w.cell? ⟨18, 0, none⟩ = some (errV a 18) := h 18 (by omega)
  have z0 : 3 < w.heap.size := lt_of_cell h0
  have z1 : 4 < w.heap.size := lt_of_cell h1
  have z2 : 5 < w.heap.size := lt_of_cell h2
  have z3 : 6 < w.heap.size := lt_of_cell h3
  have z4 : 7 < w.heap.size := lt_of_cell h4
  have z5 : 8 < w.heap.size := lt_of_cell h5
  have z6 : 9 < w.heap.size := lt_of_cell h6
  have z7 : 10 < w.heap.size := lt_of_cell h7
  have z8 : 2 < w.heap.size := lt_of_cell h8
  have z9 : 11 < w.heap.size := lt_of_cell h9
  have z10 : 12 < w.heap.size := lt_of_cell h10
  have z11 : 1 < w.heap.size := lt_of_cell h11
  have z12 : 13 < w.heap.size := lt_of_cell h12
  have z13 : 14 < w.heap.size := lt_of_cell h13
  have z14 : 15 < w.heap.size := lt_of_cell h14
  have z15 : 16 < w.heap.size := lt_of_cell h15
  have z16 : 17 < w.heap.size := lt_of_cell h16
  have z17 : 0 < w.heap.size := lt_of_cell h17
  have z18 : 18 < w.heap.size := lt_of_cell h18
  clear h
  go_enter Tryz.func71, Tryz.ntmps71
  go_wp2_with (first | (refine wl_build a rfl _ rfl (by kernel_rfl) ?_) | (refine wl_store a rfl _ _ rfl (by kernel_rfl) (by kernel_rfl) (by kernel_rfl) ?_))
  have hl := run_loadVar_new (P := Tryz.prog) w 117 (errA a) 19 40 Tryz.underlying117 (by kernel_rfl)
  refine bodyPost_ret (v := .agg (errA a)) ?_ rfl ⟨rfl, (Below.refl _ _).alloc (Nat.le_refl _) _⟩
  simp only [results, Tryz.results71]
  simp [asAddr, Act.put, hl]

theorem errA_get (a : Nat → Addr) (k : Nat) (hk : k < 19) : (errA a)[k]? = some (errV a k) := by
  have e : errA a = ((List.range 19).map (errV a)).toArray := rfl
  rw [e]
  simp [hk]

theorem index_arr {A : Array Value} {k : Nat} {v : Value} (hk : k < 19) (hA : A[k]? = some v) (w : World) : (Instr.index 117 (.agg A) (.int .i64 k)).run Tryz.prog w = .ok v w := by
  obtain ⟨i, hi, hs⟩ := Option.map_eq_some_iff.1 (show (Tryz.prog.info? 40).map (·.size) = some 1 by kernel_rfl)
  have hk2 : (0 : Int) ≤ k ∧ (k : Int) < 19 := by omega
  simp [Instr.index, run_underlying Tryz.underlying117, asIntOf, hk2, sizeOf, typeInfo, hi, hs, part, hA]
  omega

theorem num_nil (w : World) : Calls Tryz.prog 14 #[.nilIface] w fun e w' => e = .returned (.int .i64 0) ∧ w' = w := by
  go_enter Tryz.func14, Tryz.ntmps14
  go_wp2
  go_ret
  exact ⟨rfl, rfl⟩

set_option maxHeartbeats 400000 in
theorem num_err {a : Nat → Addr} {w : World} (h : Sent a w) (n : Nat) (hn : n < 19) :
    Calls Tryz.prog 14 #[errV a n] w fun e w' => e = .returned (.int .i64 (n + 1)) ∧ Below w.heap.size w w' := by
  have hcell : ∀ i, i < 19 → w.cell? ⟨[3, 4, 5, 6, 7, 8, 9, 10, 2, 11, 12, 1, 13, 14, 15, 16, 17, 0, 18].getD i 0, 0, none⟩ = some (errV a i) := fun i hi => h.cell i (in19 hi)
  have hnil := eql_nil a n
  have hsame := eql_same a n
  obtain ⟨A, hA⟩ : ∃ A, A = errA a := ⟨_, rfl⟩
  have hAs : A.size = 19 := by rw [hA]; rfl
  have hAg : ∀ k, k < 19 → A[k]? = some (errV a k) := by rw [hA]; exact errA_get a
  go_enter Tryz.func14, Tryz.ntmps14
  go_wp2_with (go_at_call 71; refine (list_any a _ hcell).mono ?_; rintro e w1 ⟨rfl, hb⟩; have h1 := h.below hb; clear hcell h hnil; rw [← hA]; clear hA)
  go_loop [8] (fun i => ∃ k : Nat, k ≤ n ∧ i = .int .i64 k) (fun i => 19 - (intOf i).toNat)
  case atStart => exact ⟨0, Nat.zero_le _, rfl⟩
  case round =>
    obtain ⟨k, hk, rfl⟩ := hrel
    have hAk := hAg k (by omega)
    have hk9 : (k : Int) < 19 := by omega
    have hix := index_arr (A := A) (by omega : k < 19) hAk
    clear hAg hAk
    by_cases hlt : k < n
    · have he := eql_other h1 n k (in19 hn) (in19 (by omega)) (by omega)
      clear h1 hsame
      go_wp2
      go_round
      case rel => exact ⟨k + 1, by omega, by go_num⟩
      case measure => simp [intOf]; omega
    · obtain rfl : k = n := by omega
      clear h1
      go_wp2
      go_ret
      exact ⟨rfl, hb⟩

theorem num_of {a : Nat → Addr} {w : World} (h : Sent a w) (e : Nat) (he : e ≤ 19) :
    Calls Tryz.prog 14 #[errOf a e] w fun r w' => r = .returned (.int .i64 e) ∧ Below w.heap.size w w' := by
  cases e with
  | zero => exact (num_nil w).mono fun r w' ⟨h1, h2⟩ => ⟨h1, by rw [h2]; exact Below.refl _ _⟩
  | succ n => rw [errOf_succ]; exact num_err h n (by omega)
end Go.Proofs.YtalfdjglbbmjcaaGreatDoor

/- The document's Deleted, Document, Short, Concat, Shift of layer 8; told. -/
namespace Go.Proofs.YtalfdjglbbmjcaaGreatDoor
open Go Go.RowKit Go.Lib
set_option linter.unusedVariables false

set_option maxHeartbeats 4000000 in
set_option maxRecDepth 100000 in
theorem refDl8_any (v : Value) (E : List Op5) (w : World) (h : RfE w v E) :
    Calls Tryz.prog 41 #[v] w fun r w' => r = .returned (.int .i64 (sumD8 E)) ∧ Below w.heap.size w w' := by
  obtain ⟨p, cp, rfl⟩ := h.sl
  obtain ⟨n, hn⟩ : ∃ n, E.length = n := ⟨_, rfl⟩
  rw [hn] at h ⊢
  have H := Hid.mk8 h
  have HN : Hid (E.length = n) := hn
  have hl : n ≤ 1048576 := by rw [← hn]; exact h.len
  clear h hn
  go_enter Tryz.func41, Tryz.ntmps41
  go_wp2
  go_loopw [3, 4] (fun s i wr => ∃ (k : Nat) (z : Int), k ≤ n ∧ i = .int .i64 k ∧ s = .int .i64 z ∧ Hid (sumD8 (E.take k) = z) ∧ Below w.heap.size w wr) (fun _ i _ => n - (RowKit.intOf i).toNat)
  case atStart => exact ⟨0, 0, Nat.zero_le _, rfl, rfl, by show sumD8 (E.take 0) = 0; simp [sumD8], Below.refl _ _⟩
  case round =>
    obtain ⟨k, z, hk, rfl, rfl, HZ, hbw⟩ := hrel
    by_cases hlt : k < n
    · have hltI : (k : Int) < n := by omega
      obtain ⟨-, hcp, e, b, off, sp, sc, he, rfl, hat, hrn, hg, hf⟩ := (H.out.below hbw).at' hlt
      obtain ⟨c0, c1, c2, c3, c4, c5, c6⟩ := hat
      have ht := (sums_take8 (fun o ho => wel_of (H.out.g o ho)) H.out.fits k).2
      have ht2 := (sums_take8 (fun o ho => wel_of (H.out.g o ho)) H.out.fits (k + 1)).2
      have hsn : sumD8 (E.take (k + 1)) = z + dlO8 e := by rw [List.take_add_one, he, Option.toList_some, sumD8_snoc, HZ.out]
      rw [HZ.out] at ht
      rw [hsn] at ht2
      have HS : Hid (sumD8 (E.take (k + 1)) = z + dlO8 e) := hsn
      by_cases hk4 : e.k = 4
      · have hi : dlO8 e = e.c := by unfold dlO8; rw [if_pos hk4, len5_3 (Or.inr hk4)]
        rw [hi] at HS ht2
        have hz : IntKind.i64.wrap (z + e.c) = z + e.c := by rw [IntKind.wrap_i64]; omega
        clear he hg hf hrn hsn hi
        obtain ⟨ek, et, ⟨ex, en, eu⟩, ec, eA⟩ := e
        simp only at c0 c5 hk4 hz HS ht2
        subst hk4
        clear c1 c2 c3 c4 c6
        obtain ⟨ht0, ht1⟩ := ht
        obtain ⟨ht3, ht4⟩ := ht2
        go_wp2
        go_roundw
        case rel => exact ⟨k + 1, z + ec, by omega, by go_num, by first | rfl | rw [hz], HS.out, hbw⟩
        case measure => simp [RowKit.intOf]; omega
      · have hi : dlO8 e = 0 := if_neg hk4
        rw [hi, Int.add_zero] at HS
        have hk4' : (e.k == 4) = false := by simpa using hk4
        clear he hg hf hrn hsn hi ht ht2 hk4
        obtain ⟨ek, et, ⟨ex, en, eu⟩, ec, eA⟩ := e
        simp only at c0 hk4'
        clear c1 c2 c3 c4 c5 c6
        go_wp2
        go_roundw
        case rel => exact ⟨k + 1, z, by omega, by go_num, rfl, HS.out, hbw⟩
        case measure => simp [RowKit.intOf]; omega
    · have hltI : ¬ (k : Int) < n := by omega
      have hE : E.take k = E := List.take_of_length_le (by rw [HN.out]; omega)
      rw [hE] at HZ
      go_wp2
      go_ret
      exact ⟨by rw [HZ.out]; rfl, hbw⟩
theorem base_at8 : ∀ {E : List Op5}, (∀ o ∈ E, Wel o) → ∀ {o : Op5}, o ∈ E → baseO o ≤ sumB E
  | [], _, o, h => by cases h
  | x :: r, hw, o, h => by
    have hr : ∀ y ∈ r, Wel y := fun y hy => hw y (List.mem_cons_of_mem _ hy)
    have hn := sums_nn hr
    have hx := three_sums (hw x (List.mem_cons_self ..))
    rw [sumB_cons]
    rcases List.mem_cons.1 h with rfl | h
    · omega
    · have := base_at8 hr h; omega
theorem base_doc8 : ∀ {E : List Op5}, (∀ o ∈ E, o.k = 1 ∨ o.k = 2) → sumB E = 0
  | [], _ => rfl
  | x :: r, h => by
    rw [sumB_cons, base_1 (h x (List.mem_cons_self ..)), base_doc8 fun y hy => h y (List.mem_cons_of_mem _ hy)]; rfl
set_option maxHeartbeats 4000000 in
set_option maxRecDepth 100000 in
theorem refDoc8_any (v : Value) (E : List Op5) (w : World) (h : RfE w v E) :
    Calls Tryz.prog 43 #[v] w fun r w' => r = .returned (.bool (sumB E == 0)) ∧ Below w.heap.size w w' := by
  obtain ⟨p, cp, rfl⟩ := h.sl
  obtain ⟨n, hn⟩ : ∃ n, E.length = n := ⟨_, rfl⟩
  rw [hn] at h ⊢
  have H := Hid.mk8 h
  have HN : Hid (E.length = n) := hn
  have hl : n ≤ 1048576 := by rw [← hn]; exact h.len
  obtain ⟨R, hR⟩ : ∃ R, (sumB E == 0) = R := ⟨_, rfl⟩
  rw [hR]
  have HR : Hid ((sumB E == 0) = R) := hR
  clear h hn hR
  go_enter Tryz.func43, Tryz.ntmps43
  go_wp2
  go_loopw [3] (fun i wr => ∃ (k : Nat), k ≤ n ∧ i = .int .i64 k ∧ Hid (∀ o ∈ E.take k, o.k = 1 ∨ o.k = 2) ∧ Below w.heap.size w wr) (fun i _ => n - (RowKit.intOf i).toNat)
  case atStart => exact ⟨0, Nat.zero_le _, rfl, fun o ho => (by rw [List.take_zero] at ho; cases ho), Below.refl _ _⟩
  case round =>
    obtain ⟨k, hk, rfl, HZ, hbw⟩ := hrel
    by_cases hlt : k < n
    · have hltI : (k : Int) < n := by omega
      obtain ⟨-, hcp, e, b, off, sp, sc, he, rfl, hat, hrn, hg, hf⟩ := (H.out.below hbw).at' hlt
      obtain ⟨c0, -⟩ := hat
      have HM : Hid (e ∈ E ∧ Wel e ∧ E.take (k + 1) = E.take k ++ [e]) := ⟨List.mem_of_getElem? he, wel_of hg, by rw [List.take_add_one, he]; rfl⟩
      rcases kinds_of hg with hk1 | hk1 | hk1 | hk1
      iterate 2
        · have HZ2 : Hid (∀ o ∈ E.take (k + 1), o.k = 1 ∨ o.k = 2) := by
            show ∀ o ∈ E.take (k + 1), o.k = 1 ∨ o.k = 2
            rw [HM.out.2.2]
            intro o ho
            rcases List.mem_append.1 ho with ho | ho
            · exact HZ.out o ho
            · rw [List.mem_singleton.1 ho]; omega
          clear he hg hf hrn HM HZ
          obtain ⟨ek, et, ⟨ex, en, eu⟩, ec, eA⟩ := e
          simp only at c0 hk1
          subst hk1
          go_wp2
          go_roundw
          case rel => exact ⟨k + 1, by omega, by go_num, HZ2, hbw⟩
          case measure => simp [RowKit.intOf]; omega
      all_goals
        have hRf : R = false := by
          rw [← HR.out, beq_eq_false_iff_ne]
          have h1 := base_at8 (fun o ho => wel_of (H.out.g o ho)) HM.out.1
          have h2 := HM.out.2.1.count (by omega)
          rw [base_3 (by omega)] at h1
          omega
        subst hRf
        clear he hg hf hrn HM HZ
        obtain ⟨ek, et, ⟨ex, en, eu⟩, ec, eA⟩ := e
        simp only at c0 hk1
        subst hk1
        go_wp2
        go_ret
        exact ⟨rfl, hbw⟩
    · have hltI : ¬ (k : Int) < n := by omega
      have hE : E.take k = E := List.take_of_length_le (by rw [HN.out]; omega)
      rw [hE] at HZ
      have hRt : R = true := by rw [← HR.out, base_doc8 HZ.out]; rfl
      subst hRt
      go_wp2
      go_ret
      exact ⟨rfl, hbw⟩
/-- What the document's Concat answers of a list that is to be made canonical. -/
def ShoR (w w' : World) (L : List Op5) (lv : Value) (e : Int) : Prop :=
  (Fits8 (canonL L) → e = 0 ∧ (∃ p n c, lv = .slice p n c) ∧ ReO w' lv (canonL L)) ∧ (¬ Fits8 (canonL L) → e = 11 ∧ lv = .slice none 0 0)
instance (E : List Op5) : Decidable (Fits8 E) := by unfold Fits8; infer_instance
theorem fits_dec (E : List Op5) : decide (1099511627776 < sumB E ∨ 1099511627776 < sumR E) = !decide (Fits8 E) := by
  by_cases h : Fits8 E
  · rw [decide_eq_true h]
    unfold Fits8 at h
    exact decide_eq_false (by omega)
  · rw [decide_eq_false h]
    unfold Fits8 at h
    exact decide_eq_true (by omega)
structure CanW (C : List Op5) : Prop where
  wel : ∀ o ∈ C, Wel o
  fit : ∀ o ∈ C, FitA o
  cnt : ∀ o ∈ C, o.c ≤ 2199023255552
  txt : ∀ o ∈ C, o.t.size ≤ 8388608
theorem canonW_ok {E : List Op5} (h : OkW E) : CanW (canonL E) ∧ (canonL E).length ≤ E.length ∧ txtS (canonL E) ≤ txtS E := by
  have hz : BSz (bldR E) E.length (txtS E) := by
    have := bldR_sz E BSz.nil h.fit
    rw [Nat.zero_add, Nat.zero_add] at this
    exact this
  obtain ⟨c1, c2, c3, c4⟩ := canon_spec h.wel
  obtain ⟨s1, s2⟩ := canon_sums h.wel
  have key : (∀ x ∈ canonL E, FitA x) ∧ txtS (canonL E) ≤ txtS E ∧ (canonL E).length ≤ E.length := by
    rw [← finB_canon h.wel]
    obtain ⟨a, b, c⟩ := hz.set
    have a2 := hz.fit
    have b2 := hz.txt
    have c2 := hz.len
    unfold finB
    by_cases h0 : 0 < (bldR E).2
    · rw [if_pos h0]
      unfold setB at a b c
      rw [if_pos h0] at a b c
      exact ⟨a, b, c⟩
    · rw [if_neg h0]
      obtain ⟨t1, t2, t3⟩ := trim_sub (bldR E).1
      exact ⟨fun x hx => a2 x (t1 x hx), by omega, by omega⟩
  have hb := h.base
  have ht := h.txt
  refine ⟨⟨c1, key.1, fun o ho => ?_, fun o ho => ?_⟩, key.2.2, key.2.1⟩
  · rcases cnt_le c1 ho with h1 | h1 <;> omega
  · have := txtS_mem ho; omega
set_option maxHeartbeats 1000000 in
theorem refShort8_any {w0 : World} (va : Value) (D0 : List OV) (L : List Op5) (w : World) (hb0 : Below w0.heap.size w0 w) (hrow : RowO w va D0) (hre : ReD w0 D0 L) (ok : OkW L) (hl : L.length ≤ 2097152) :
    Calls Tryz.prog 100 #[va] w fun r w' => ∃ lv e, r = .returned (.tuple #[lv, .int .i64 e]) ∧ ShoR w w' L lv e ∧ Below w.heap.size w w' := by
  obtain ⟨k1, k2, k3⟩ := canonW_ok ok
  have c1 := canonW_any va D0 L w hb0 hrow hre ok
  have cL : Hid (∀ W v' D', Below w.heap.size w W → RowO W v' D' → ReD w0 D' (canonL L) → Calls Tryz.prog 70 #[v'] W fun r w' => r = .returned (.bool (!decide (Fits8 (canonL L)))) ∧ Below W.heap.size W w') := fun W v' D' hW h1 h2 => by
    have := longW_any v' D' (canonL L) W (hb0.trans (hW.mono hb0.size)) h1 h2 k1.wel k1.cnt k1.txt (by omega)
    rwa [fits_dec] at this
  have HB : Hid (Below w0.heap.size w0 w) := hb0
  obtain ⟨C, hC⟩ : ∃ C, canonL L = C := ⟨_, rfl⟩
  unfold ShoR
  rw [hC] at c1 cL ⊢
  obtain ⟨p, cap, rfl, _⟩ := hrow
  clear hre ok k1 k2 k3 hC hb0
  by_cases hf : Fits8 C
  · rw [decide_eq_true hf] at cL
    go_enter Tryz.func100, Tryz.ntmps100
    go_wp2_with fail
    refine c1.mono ?_; rintro r w2 ⟨v', rfl, ⟨D', hfar, hre'⟩, b2⟩
    have c2 := cL.out w2 v' D' b2 hfar.row hre'
    obtain ⟨p', cap', e', h1, h2, h3⟩ := id hfar
    subst e'
    have HF : Hid (FarO w2 w.heap.size (.slice p' D'.length cap') D' ∧ ReD w0 D' C) := ⟨hfar, hre'⟩
    clear c1 cL hfar hre' h1 h2 h3
    go_wp2_with fail
    refine c2.mono ?_; rintro r w3 ⟨rfl, b3⟩
    have b23 := b2.trans (b3.mono b2.size)
    have HR : Hid (ReO w3 (.slice p' D'.length cap') C) := ⟨D', HF.out.1.row.below b3, HF.out.2.below (HB.out.trans (b23.mono HB.out.size))⟩
    clear c2 b2 b3 HF
    go_wp2
    go_ret2
    exact ⟨_, 0, rfl, ⟨fun _ => ⟨rfl, ⟨_, _, _, rfl⟩, HR.out⟩, fun h => absurd hf h⟩, b23⟩
  · rw [decide_eq_false hf] at cL
    go_enter Tryz.func100, Tryz.ntmps100
    go_wp2_with fail
    refine c1.mono ?_; rintro r w2 ⟨v', rfl, ⟨D', hfar, hre'⟩, b2⟩
    have c2 := cL.out w2 v' D' b2 hfar.row hre'
    obtain ⟨p', cap', e', h1, h2, h3⟩ := id hfar
    subst e'
    clear c1 cL hfar hre' h1 h2 h3
    go_wp2_with fail
    refine c2.mono ?_; rintro r w3 ⟨rfl, b3⟩
    have b23 := b2.trans (b3.mono b2.size)
    clear c2 b2 b3
    go_wp2
    go_ret2
    exact ⟨_, 11, rfl, ⟨fun h => absurd h hf, fun _ => ⟨rfl, rfl⟩⟩, b23⟩
end Go.Proofs.YtalfdjglbbmjcaaGreatDoor

/- The document's Concat and Shift of layer 8; told. -/
namespace Go.Proofs.YtalfdjglbbmjcaaGreatDoor
open Go Go.RowKit Go.Lib
set_option linter.unusedVariables false

theorem okW_cat {w : World} {va vb : Value} {A B : List Op5} (hA : RfE w va A) (hB : RfE w vb B) (ht : txtS A + txtS B ≤ 8388608) (hl : A.length + B.length ≤ 2097152) : OkW (A ++ B) := by
  have h1 := hA.fits.1
  have h2 := hB.fits.1
  refine ⟨fun o ho => ?_, fun o ho => ?_, by rw [txtS_append]; exact ht, by rw [List.length_append]; omega, by rw [sumB_append]; omega⟩
  · rcases List.mem_append.1 ho with h | h
    · exact hA.g o h
    · exact hB.g o h
  · rcases List.mem_append.1 ho with h | h
    · exact (hA.fit o h).fitA
    · exact (hB.fit o h).fitA
set_option maxHeartbeats 2000000 in
set_option maxRecDepth 100000 in
theorem refConcat8_any (va vb : Value) (A B : List Op5) (w : World) (hA : RfE w va A) (hB : RfE w vb B) (ht : txtS A + txtS B ≤ 8388608) (hl : A.length + B.length ≤ 2097152) :
    Calls Tryz.prog 45 #[va, vb] w fun r w' => ∃ lv e, r = .returned (.tuple #[lv, .int .i64 e]) ∧ ShoR w w' (A ++ B) lv e ∧ Below w.heap.size w w' := by
  have ok := okW_cat hA hB ht hl
  obtain ⟨DA, rA, eA⟩ := hA.re
  obtain ⟨DB, rB, eB⟩ := hB.re
  have lA := forall2_len eA
  have lB := forall2_len eB
  have cS : Hid (∀ W v, Below w.heap.size w W → RowO W v (DA ++ DB) → Calls Tryz.prog 100 #[v] W fun r w' => ∃ lv e, r = .returned (.tuple #[lv, .int .i64 e]) ∧ ShoR w w' (A ++ B) lv e ∧ Below W.heap.size W w') := fun W v hW hr => by
    refine (refShort8_any (w0 := w) v (DA ++ DB) (A ++ B) W hW hr (forall2_append eA eB) ok (by rw [List.length_append]; exact hl)).mono ?_
    rintro r w' ⟨lv, e, h1, h2, h3⟩
    exact ⟨lv, e, h1, h2, h3⟩
  have oE := own_emptyO w w.heap.size (Nat.le_refl _)
  have bE : Below w.heap.size w (w.alloc (.cells #[] 33)) := (Below.refl _ _).alloc (Nat.le_refl _) _
  have HR : Hid (RowO w va DA ∧ RowO w vb DB) := ⟨rA, rB⟩
  have hL1 : ([] : List OV).length + DA.length ≤ 33554432 := by simp; omega
  have hL2 : Hid (DA.length + DB.length ≤ 33554432) := by show _ ≤ _; omega
  have HRA := HR.out.1.below bE
  obtain ⟨pa, ca, rfl, _⟩ := id rA
  obtain ⟨pb, cb, rfl, _⟩ := id rB
  clear hA hB ok rA rB eA eB lA lB ht hl
  go_enter Tryz.func45, Tryz.ntmps45
  go_wp2_with (first
    | (at_builtin; refine wpList_append_rowO rfl (.tmp 6) (.tmp 7) rfl w.heap.size (.slice (some ⟨w.heap.size, 0, none⟩) 0 0) [] rfl oE (.slice pa DA.length ca) DA rfl HRA hL1 bE.size ?_; intro v8 w8 own8 gr8; have b8 : Below w.heap.size w w8 := bE.grown gr8 bE.size (fun k hk => by simp only [Value.ownBlock, Option.some.injEq] at hk; omega); have HO8 : Hid (OwnO w8 w.heap.size v8 DA) := own8; have HB8 : RowO w8 (.slice pb DB.length cb) DB := HR.out.2.below b8; have hge : Hid (∀ j, v8.ownBlock = some j → w.heap.size ≤ j) := (fun j hj => (owns_block HO8.out j hj).1); clear own8 gr8 oE bE HRA hL1)
    | (at_builtin; refine wpList_append_rowO rfl (.tmp 8) (.tmp 9) rfl w.heap.size v8 DA rfl HO8.out (.slice pb DB.length cb) DB rfl HB8 hL2.out b8.size ?_; intro v10 w10 own10 gr10; have b10 := b8.grown gr10 b8.size (fun k hk => hge.out k hk); have c10 := cS.out w10 v10 b10 (own_rowO own10); clear own10 gr10 b8 HB8 cS))
  refine c10.mono ?_; rintro r w11 ⟨lv, e, rfl, hs, b11⟩
  have HS : Hid (ShoR w w11 (A ++ B) lv e) := hs
  have b := b10.trans (b11.mono b10.size)
  clear c10 hs b10 b11
  go_wp2
  go_ret2
  exact ⟨lv, e, rfl, HS.out, b⟩
/-- What the document's Shift answers. -/
def ShfR (w w' : World) (E : List Op5) (n : Int) (lv : Value) (e : Int) : Prop :=
  ((n < 0 ∨ 1099511627776 < n) → e = 12 ∧ lv = .slice none 0 0) ∧
  (¬ (n < 0 ∨ 1099511627776 < n) → ((n = 0 ∨ E = []) → e = 0 ∧ (∃ p m c, lv = .slice p m c) ∧ ReO w' lv E) ∧ (¬ (n = 0 ∨ E = []) → ShoR w w' (pl7 n :: E) lv e))
set_option maxHeartbeats 2000000 in
set_option maxRecDepth 100000 in
theorem refShift8_any (va : Value) (E : List Op5) (n : Int) (w : World) (hA : RfE w va E) (ht : txtS E ≤ 8388608) (hn : -9223372036854775808 ≤ n ∧ n ≤ 9223372036854775807) :
    Calls Tryz.prog 50 #[va, .int .i64 n] w fun r w' => ∃ lv e, r = .returned (.tuple #[lv, .int .i64 e]) ∧ ShfR w w' E n lv e ∧ Below w.heap.size w w' := by
  obtain ⟨p, c, rfl⟩ := hA.sl
  have hlen := hA.len
  by_cases hr : n < 0 ∨ 1099511627776 < n
  · have fin : ShfR w w E n (.slice none 0 0) 12 := ⟨fun _ => ⟨rfl, rfl⟩, fun h => absurd hr h⟩
    have HF : Hid (ShfR w w E n (.slice none 0 0) 12) := fin
    clear fin hA ht
    rcases hr with hr | hr
    · go_enter Tryz.func50, Tryz.ntmps50
      go_wp2
      go_ret2
      exact ⟨_, 12, rfl, HF.out, Below.refl _ _⟩
    · have h0 : ¬ n < 0 := by omega
      have h1 : n > 1099511627776 := hr
      go_enter Tryz.func50, Tryz.ntmps50
      go_wp2
      go_ret2
      exact ⟨_, 12, rfl, HF.out, Below.refl _ _⟩
  · have h0 : ¬ n < 0 := by omega
    have h1 : ¬ n > 1099511627776 := by omega
    by_cases hz : n = 0 ∨ E = []
    · obtain ⟨DA, rA, eA⟩ := hA.re
      have lA := forall2_len eA
      have oE := own_emptyO w w.heap.size (Nat.le_refl _)
      have bE : Below w.heap.size w (w.alloc (.cells #[] 33)) := (Below.refl _ _).alloc (Nat.le_refl _) _
      have HRA := rA.below bE
      have hL1 : ([] : List OV).length + DA.length ≤ 33554432 := by simp; omega
      have HE : Hid (ReD w DA E ∧ ¬ (n < 0 ∨ 1099511627776 < n) ∧ (n = 0 ∨ E = [])) := ⟨eA, hr, hz⟩
      obtain ⟨m, hm⟩ : ∃ m, E.length = m := ⟨_, rfl⟩
      rw [hm] at hA rA HRA ⊢
      have hc : ((m : Int) == 0) = true ∨ (((m : Int) == 0) = false ∧ (n == 0) = true) := by
        rcases hz with h | h
        · by_cases hm0 : m = 0
          · left; rw [hm0]; rfl
          · right; exact ⟨by rw [beq_eq_false_iff_ne]; omega, by rw [h]; rfl⟩
        · left; rw [← hm, h]; rfl
      clear hA ht rA eA lA hr hz hlen hm
      rcases hc with hc | ⟨hc, hc2⟩
      all_goals
        go_enter Tryz.func50, Tryz.ntmps50
        go_wp2_with (at_builtin; refine wpList_append_rowO rfl (.tmp 19) (.tmp 20) rfl w.heap.size (.slice (some ⟨w.heap.size, 0, none⟩) 0 0) [] rfl oE (.slice p m c) DA rfl HRA hL1 bE.size ?_; intro v8 w8 own8 gr8; have b8 : Below w.heap.size w w8 := bE.grown gr8 bE.size (fun k hk => by simp only [Value.ownBlock, Option.some.injEq] at hk; omega); have HO8 : Hid (OwnO w8 w.heap.size v8 DA) := own8; clear own8 gr8 oE bE HRA hL1)
        go_ret2
        obtain ⟨p8, c8, e8, _⟩ := own_rowO HO8.out
        exact ⟨v8, 0, rfl, ⟨fun h => absurd h HE.out.2.1, fun _ => ⟨fun _ => ⟨rfl, ⟨_, _, _, e8⟩, ⟨DA, own_rowO HO8.out, HE.out.1.below b8⟩⟩, fun h => absurd HE.out.2.2 h⟩⟩, b8⟩
    · have hn0 : n ≠ 0 := fun h => hz (Or.inl h)
      have hE0 : E ≠ [] := fun h => hz (Or.inr h)
      have bA : ∀ o, Below w.heap.size w (w.alloc o) := fun o => (Below.refl _ _).alloc (Nat.le_refl _) o
      have hone : RfE (w.alloc (.cells #[.int .i64 3, .string ⟨#[]⟩, .int .i64 0, .int .i64 0, .string ⟨#[]⟩, .int .i64 n, .slice none 0 0] 33)) (.slice (some ⟨w.heap.size, 0, none⟩) 1 1) [pl7 n] := by
        refine ⟨re_blk (E := [pl7 n]) (heap_alloc_new w _) (fun o ho => by rw [List.mem_singleton.1 ho]; rfl), fun o ho => ?_, fun o ho => ?_, by simp, ?_⟩
        · rw [List.mem_singleton.1 ho]; exact (pl_good (by omega) (by omega)).1
        · rw [List.mem_singleton.1 ho]; exact (pl_fit n).fit (by show (0 : Nat) ≤ _; omega)
        · have := pl_sums n []
          unfold Fits8
          rw [this.1, this.2]
          simp [sumB, sumR]; omega
      have c1 := refConcat8_any (.slice (some ⟨w.heap.size, 0, none⟩) 1 1) (.slice p E.length c) [pl7 n] E _ hone (hA.below (bA _)) (by rw [txtS_one]; show 0 + _ ≤ _; omega) (by simp; omega)
      have hc : ((E.length : Int) == 0) = false := by have := List.length_pos_iff.2 hE0; rw [beq_eq_false_iff_ne]; omega
      have hc2 : (n == 0) = false := by simpa using hn0
      have HE : Hid (¬ (n < 0 ∨ 1099511627776 < n) ∧ ¬ (n = 0 ∨ E = [])) := ⟨hr, hz⟩
      obtain ⟨m, hm⟩ : ∃ m, E.length = m := ⟨_, rfl⟩
      rw [hm] at c1 hc ⊢
      clear hA ht hr hz hlen hm hone hn0 hE0
      have bA1 := bA (.cells #[.int .i64 3, .string ⟨#[]⟩, .int .i64 0, .int .i64 0, .string ⟨#[]⟩, .int .i64 n, .slice none 0 0] 33)
      clear bA
      go_enter Tryz.func50, Tryz.ntmps50
      go_wp2_with fail
      refine c1.mono ?_; rintro r w3 ⟨lv, e, rfl, hs, b3⟩
      have HS : Hid (ShoR (w.alloc (.cells #[.int .i64 3, .string ⟨#[]⟩, .int .i64 0, .int .i64 0, .string ⟨#[]⟩, .int .i64 n, .slice none 0 0] 33)) w3 ([pl7 n] ++ E) lv e) := hs
      have b := bA1.trans (b3.mono bA1.size)
      clear c1 hs b3 bA1
      go_wp2
      go_ret2
      exact ⟨lv, e, rfl, ⟨fun h => absurd h HE.out.1, fun _ => ⟨fun h => absurd h HE.out.2, fun _ => HS.out⟩⟩, b⟩
set_option maxHeartbeats 2000000 in
theorem told8_no {a : Nat → Addr} (lv : Value) (e : Nat) (w : World) (hN : Sent a w) (he : e + 1 ≤ 19) (hl : ∃ p n c, lv = .slice p n c) :
    Calls Tryz.prog 46 #[.pointer none, errV a e, lv, .int .i64 ((e : Int) + 1)] w fun r w' => r = .returned (.bool true) ∧ Below w.heap.size w w' := by
  have c := num_of hN (e + 1) he
  rw [errOf_succ] at c
  obtain ⟨p, n, cc, rfl⟩ := hl
  have e1 : (((e + 1 : Nat) : Int)) = (e : Int) + 1 := by omega
  rw [e1] at c
  obtain ⟨x, hx⟩ : ∃ x : Int, (e : Int) + 1 = x := ⟨_, rfl⟩
  rw [hx] at c ⊢
  have h1 : (x != x) = false := bne_self_eq_false _
  have h2 : (x != 0) = true := by rw [bne_iff_ne]; omega
  clear hN he hx e1
  go_enter Tryz.func46, Tryz.ntmps46
  go_wp2_with fail
  refine c.mono ?_; rintro r w2 ⟨rfl, b2⟩
  clear c
  go_wp2
  go_ret
  exact ⟨rfl, b2⟩
set_option maxHeartbeats 2000000 in
theorem told8_ok {a : Nat → Addr} {B1 B2 : Nat} (d lv : Value) (E F : List Op5) (w : World) (hN : Sent a w) (hd : DlE w B1 B2 d E) (hl : ReO w lv F) (hF : F.length ≤ 2097152) (hA : ∀ e ∈ F, e.A.length ≤ 1048576) :
    Calls Tryz.prog 46 #[d, .nilIface, lv, .int .i64 0] w fun r w' => r = .returned (.bool (decide (E = F))) ∧ Below w.heap.size w w' := by
  have c := num_nil w
  have c2 := is8_any d lv E F w hd hl hF hA
  obtain ⟨q, pv, PL, rfl, _⟩ := id hd.d
  obtain ⟨D, ⟨p, cp, rfl, _⟩, _⟩ := id hl
  generalize decide (E = F) = R at c2 ⊢
  clear hN hd hl hF hA
  go_enter Tryz.func46, Tryz.ntmps46
  go_wp2_with fail
  refine c.mono ?_; rintro r w2 ⟨rfl, hw⟩
  obtain rfl := hw.symm
  clear c
  go_wp2_with fail
  refine c2.mono ?_; rintro r w3 ⟨rfl, b3⟩
  clear c2
  go_wp2
  go_ret
  exact ⟨rfl, b3⟩
end Go.Proofs.YtalfdjglbbmjcaaGreatDoor

/- A piece cut in two; a piece taken. -/
namespace Go.Proofs.YtalfdjglbbmjcaaGreatDoor
open Go Go.RowKit Go.Lib
set_option linter.unusedVariables false

set_option maxHeartbeats 2000000 in
set_option maxRecDepth 100000 in
theorem cut71_any {e : Op5} {m : Nat} (p : Option Addr) (l c : Nat) (w : World) (hg : opE e = 0) (hk : e.k = 1) (h1 : 1 ≤ m) (h2 : (m : Int) < len5 e) (ht : e.t.size ≤ 8388608) (hR : RN w (.slice p l c) e.A) (hl : e.A.length ≤ 2097152) :
    Calls Tryz.prog 122 #[pieceQ e (.slice p l c), .int .i64 m] w fun r w' => ∃ s1, r = .returned (.tuple #[pieceQ (hd7 e m) s1, pieceQ (tl7 e m) (.slice p l c)]) ∧ OwnA w' w.heap.size s1 e.A ∧ Below w.heap.size w w' := by
  have hi : Ins e := by
    rcases op_good hg with ⟨hi, _⟩ | ⟨_, _, h⟩ | ⟨_, _, h⟩
    · exact hi
    · omega
    · omega
  obtain ⟨hv1, hv2, hv3⟩ := valid_text e.t hi.utf
  have hlen := len5_1 hk
  rw [hlen] at h2
  have hm : m < (scs e.t.data.toList).length := by omega
  have b0 : Below w.heap.size w (w.alloc (.cells #[.slice p l c, .string e.t, .int .i64 (scs e.t.data.toList).length] 180)) := (Below.refl _ _).alloc (Nat.le_refl _) _
  have cT := cutText_any p l c e.t (scs e.t.data.toList).length e.A (scs e.t.data.toList) m _ (hR.below b0) hl hv2 hv1 (by omega) ht hv3 (by omega) (by omega)
  have q1 : ∀ s1, pieceQ (hd7 e m) s1 = .iface 180 (.agg #[s1, .string (e.t.extract 0 (pos (scs e.t.data.toList) m)), .int .i64 m]) := fun s1 => by
    have e1 : hd7 e m = headO e m := by unfold hd7; rw [if_pos hk]; rfl
    have := (ins_head hi h1 hm).2
    unfold lenO at this
    rw [if_pos (show (headO e m).k = 1 from rfl)] at this
    rw [e1, pieceQ_1 (o := headO e m) rfl, this]; rfl
  have q2 : pieceQ (tl7 e m) (.slice p l c) = .iface 180 (.agg #[.slice p l c, .string (e.t.extract (pos (scs e.t.data.toList) m) e.t.size), .int .i64 (((scs e.t.data.toList).length : Int) - m)]) := by
    have e1 : tl7 e m = tailO e m := by unfold tl7; rw [if_pos hk]; rfl
    have := (ins_tail hi hm).2
    unfold lenO at this
    rw [if_pos (show (tailO e m).k = 1 from rfl)] at this
    rw [e1, pieceQ_1 (o := tailO e m) rfl, this]
    show Value.iface _ (.agg #[_, .string (tailO e m).t, .int .i64 (((scs e.t.data.toList).length - m : Nat) : Int)]) = _
    rw [Int.ofNat_sub (by omega)]; rfl
  rw [q2, pieceQ_1 hk]
  obtain ⟨X, hX⟩ : ∃ X, e.t.extract 0 (pos (scs e.t.data.toList) m) = X := ⟨_, rfl⟩
  obtain ⟨Y, hY⟩ : ∃ X, e.t.extract (pos (scs e.t.data.toList) m) e.t.size = X := ⟨_, rfl⟩
  obtain ⟨n, hn⟩ : ∃ n : Int, ((scs e.t.data.toList).length : Int) = n := ⟨_, rfl⟩
  simp only [hX, hY, hn] at cT q1 b0 ⊢
  have HQ : Hid (∀ s1, pieceQ (hd7 e m) s1 = .iface 180 (.agg #[s1, .string X, .int .i64 m])) := q1
  have a0 := as_i_i
  clear q1 q2 hX hY hn hm h2 hlen hv1 hv2 hv3 hi hg hk ht hR hl
  go_enter Tryz.func122, Tryz.ntmps122
  go_wp2_with fail
  refine cT.mono ?_; rintro r w2 ⟨p', c', rfl, own2, hb2⟩
  have HQ2 : Hid (OwnA w2 w.heap.size (.slice p' e.A.length c') e.A ∧ Below w.heap.size w w2) := ⟨own_weaken own2 b0.size, b0.trans (hb2.mono b0.size)⟩
  clear cT own2 hb2 b0
  go_wp2
  go_ret2
  exact ⟨.slice p' e.A.length c', by rw [HQ.out]; rfl, HQ2.out⟩
set_option maxHeartbeats 2000000 in
set_option maxRecDepth 100000 in
theorem cut73_any {e : Op5} {m : Int} (p : Option Addr) (l c : Nat) (w : World) (hg : opE e = 0) (hk : e.k = 3) (h1 : 1 ≤ m) (h2 : m < e.c) (hR : RN w (.slice p l c) e.A) (hl : e.A.length ≤ 2097152) :
    Calls Tryz.prog 122 #[pieceQ e (.slice p l c), .int .i64 m] w fun r w' => ∃ s1, r = .returned (.tuple #[pieceQ (hd7 e m) s1, pieceQ (tl7 e m) (.slice p l c)]) ∧ OwnA w' w.heap.size s1 e.A ∧ Below w.heap.size w w' := by
  have hc : e.c ≤ 1099511627776 := by
    rcases op_good hg with ⟨_, h⟩ | ⟨hc, _, h⟩ | ⟨_, _, h⟩
    · omega
    · exact hc.hi
    · omega
  have e1 : hd7 e m = ⟨e.k, e.t, e.v, m, e.A⟩ := if_neg (by omega)
  have e2 : tl7 e m = ⟨e.k, e.t, e.v, e.c - m, e.A⟩ := if_neg (by omega)
  have cA := fun W (hW : Below w.heap.size w W) => attributes_any (.slice p l c) e.A W (hR.below hW).row hR.nz hl
  rw [e1, e2]
  simp only [pieceQ_3 hk, pieceQ_3 (o := ⟨e.k, e.t, e.v, m, e.A⟩) hk, pieceQ_3 (o := ⟨e.k, e.t, e.v, e.c - m, e.A⟩) hk]
  obtain ⟨N, hN⟩ : ∃ N, e.c = N := ⟨_, rfl⟩
  rw [hN] at h2 hc ⊢
  have a0 := as_r_i
  have a1 := as_r_r
  clear hR hg hk e1 e2 hN
  go_enter Tryz.func122, Tryz.ntmps122
  go_upto_region 7 with fail
  go_cut [8, 9] (fun x6 x7 wx => ∃ X Y, x6 = .pointer (some ⟨X, 0, none⟩) ∧ x7 = .pointer (some ⟨Y, 0, none⟩) ∧ X ≠ Y ∧ w.heap.size < X ∧ w.heap.size < Y ∧ wx.heap[X]? = some (.cells #[.slice p l c, .int .i64 N] 157 (0, 0)) ∧ wx.heap[Y]? = some (.cells #[.slice p l c, .int .i64 N] 157 (0, 0)) ∧ Below (w.heap.size + 1) (w.alloc (.cells #[.slice p l c, .int .i64 N] 157)) wx)
  case first =>
    go_region
    all_goals (try go_wp2)
    all_goals go_meet
    all_goals obtain ⟨h1, h2, hB⟩ := box3 w _ _ _ rfl
    · exact ⟨_, _, rfl, rfl, by omega, by omega, by omega, h1, h2, hB⟩
    · exact ⟨_, _, rfl, rfl, by omega, by omega, by omega, h2, h1, hB⟩
  case rest =>
    obtain ⟨X, Y, rfl, rfl, nXY, lX, lY, hX, hY, hB⟩ := hcut
    have hb0 : Below w.heap.size w wc := ((Below.refl _ w).alloc (Nat.le_refl _) _).trans (hB.mono (by omega))
    have k0 : wc.heap[w.heap.size]? = some (.cells #[.slice p l c, .int .i64 N] 157 (0, 0)) := (hB.block _ (by omega)).trans (heap_alloc_new w _)
    have zX := (Array.getElem?_eq_some_iff.1 hX).1
    have zY := (Array.getElem?_eq_some_iff.1 hY).1
    have d0 : wc.cell? ⟨w.heap.size, 0, none⟩ = some (.slice p l c) := by rw [cell_of_heap k0]; rfl
    go_wp2_with fail
    refine (cA _ hb0).mono ?_; rintro r w3 ⟨v', rfl, own3, hb3⟩
    obtain ⟨p', c', rfl⟩ := own_slice own3
    have b3 := hb0.trans (hb3.mono hb0.size)
    have q0 := heap_below hb3 k0
    have qX := heap_below hb3 hX
    have qY := heap_below hb3 hY
    have x0 : w3.cell? ⟨X, 0, none⟩ = some (.slice p l c) := by rw [cell_of_heap qX]; rfl
    have x1 : w3.cell? ⟨X, 1, none⟩ = some (.int .i64 N) := by rw [cell_of_heap qX]; rfl
    have y0 : w3.cell? ⟨Y, 0, none⟩ = some (.slice p l c) := by rw [cell_of_heap qY]; rfl
    have y1 : w3.cell? ⟨Y, 1, none⟩ = some (.int .i64 N) := by rw [cell_of_heap qY]; rfl
    have g0 : w3.frozen? ⟨X, 0, none⟩ = false := frozen_of_heap qX 0
    have g1 : w3.frozen? ⟨X, 1, none⟩ = false := frozen_of_heap qX 1
    have k1 : w3.frozen? ⟨Y, 1, none⟩ = false := frozen_of_heap qY 1
    have n5 : ¬ X = Y := nXY
    have n6 : ¬ Y = X := Ne.symm nXY
    have z1 : w.heap.size ≤ X := by omega
    have z2 : w.heap.size ≤ Y := by omega
    have z3 : w.heap.size ≤ wc.heap.size := hb0.size
    have hs3 : Hid (OwnA w3 w.heap.size (.slice p' e.A.length c') e.A ∧ (∀ k, (Value.slice p' e.A.length c').ownBlock = some k → k ≠ X ∧ k ≠ Y)) := ⟨own_weaken own3 z3, fun k hk => by have h1 := (owns_block own3 k hk).1; omega⟩
    have HB3 : Hid (Below w.heap.size w w3) := b3
    clear q0 qX qY hX hY own3 hb3 b3 hb0 d0 k0 lX lY nXY hB zX zY cA
    go_wp2
    go_region
    go_wp2
    go_ret2
    refine ⟨_, rfl, ?_, ?_⟩
    · exact owns_same hs3.out.1 (fun k hk => by
        obtain ⟨e1, e2⟩ := hs3.out.2 k hk
        repeat (with_reducible first | (refine (heap_drw7 _ _).trans ?_) | (refine (Below.heap_setCell _ _ _ _ e1).trans ?_) | (refine (Below.heap_setCell _ _ _ _ e2).trans ?_) | rfl))
    · repeat (with_reducible first | exact HB3.out | (refine Below.drew ?_) | (refine Below.setCell ?_ (p := ⟨X, _, none⟩) z1 _) | (refine Below.setCell ?_ (p := ⟨Y, _, none⟩) z2 _))
set_option maxHeartbeats 2000000 in
set_option maxRecDepth 100000 in
theorem cut74_any {e : Op5} {m : Int} (s : Value) (w : World) (hg : opE e = 0) (hk : e.k = 4) (h1 : 1 ≤ m) (h2 : m < e.c) :
    Calls Tryz.prog 122 #[pieceQ e s, .int .i64 m] w fun r w' => ∃ s1, r = .returned (.tuple #[pieceQ (hd7 e m) s1, pieceQ (tl7 e m) s]) ∧ OwnA w' w.heap.size s1 e.A ∧ Below w.heap.size w w' := by
  have hh : e.c ≤ 1099511627776 ∧ e.A = [] := by
    rcases op_good hg with ⟨_, h⟩ | ⟨hc, _, h⟩ | ⟨hc, hA, h⟩
    · omega
    · omega
    · exact ⟨hc.hi, hA⟩
  obtain ⟨hc, hA⟩ := hh
  have e1 : hd7 e m = ⟨e.k, e.t, e.v, m, e.A⟩ := if_neg (by omega)
  have e2 : tl7 e m = ⟨e.k, e.t, e.v, e.c - m, e.A⟩ := if_neg (by omega)
  rw [e1, e2, hA]
  simp only [pieceQ_4 hk, pieceQ_4 (o := ⟨e.k, e.t, e.v, m, []⟩) hk, pieceQ_4 (o := ⟨e.k, e.t, e.v, e.c - m, []⟩) hk]
  obtain ⟨N, hN⟩ : ∃ N, e.c = N := ⟨_, rfl⟩
  rw [hN] at h2 hc ⊢
  have a0 := as_d_i
  have a1 := as_d_r
  have a2 := as_d_d
  clear hg hk e1 e2 hN hA
  go_enter Tryz.func122, Tryz.ntmps122
  go_wp2
  go_region
  go_wp2
  go_ret2
  exact ⟨.slice none 0 0, rfl, World.ownsRow_nil _ _ _ _, ((Below.refl _ _).alloc (Nat.le_refl _) _).drew⟩
theorem cut7_any {e : Op5} {m : Int} (p : Option Addr) (l c : Nat) (w : World) (hg : opE e = 0) (h1 : 1 ≤ m) (h2 : m < len5 e) (ht : e.t.size ≤ 8388608) (hR : RN w (.slice p l c) e.A) (hl : e.A.length ≤ 2097152) :
    Calls Tryz.prog 122 #[pieceQ e (.slice p l c), .int .i64 m] w fun r w' => ∃ s1, r = .returned (.tuple #[pieceQ (hd7 e m) s1, pieceQ (tl7 e m) (.slice p l c)]) ∧ OwnA w' w.heap.size s1 e.A ∧ Below w.heap.size w w' := by
  rcases kinds_of hg with hk | hk | hk | hk
  · obtain ⟨n, rfl⟩ : ∃ n : Nat, m = n := ⟨m.toNat, by omega⟩
    exact cut71_any p l c w hg hk (by omega) h2 ht hR hl
  · rw [len5_2 hk] at h2; omega
  · exact cut73_any p l c w hg hk h1 (by rwa [len5_3 (.inl hk)] at h2) hR hl
  · exact cut74_any _ w hg hk h1 (by rwa [len5_3 (.inr hk)] at h2)
end Go.Proofs.YtalfdjglbbmjcaaGreatDoor

/- What a Walker takes. -/
namespace Go.Proofs.YtalfdjglbbmjcaaGreatDoor
open Go Go.RowKit Go.Lib
set_option linter.unusedVariables false

theorem rn_own {w : World} {B : Nat} {s : Value} {A : List A2} (h : OwnA w B s A) : RN w s A := own_RN h
set_option maxHeartbeats 4000000 in
set_option maxRecDepth 100000 in
theorem takeNil_any {B q g : Nat} (n : Int) (w : World) (h : WkV w B q g []) (hn : 1 ≤ n ∧ n ≤ 9223372036854775807) :
    Calls Tryz.prog 88 #[.pointer (some ⟨q, 0, none⟩), .int .i64 n] w fun r w' => ∃ s, r = .returned (pieceQ (nx7 [] n).1 s) ∧ OwnA w' B s (nx7 [] n).1.A ∧ WkV w' B q g (nx7 [] n).2 ∧ FrW q g w w' := by
  have cD := doneW_any w h
  rw [decide_eq_true rfl] at cD
  have HW : Hid (∀ W, Below w.heap.size w W → WkV W B q g []) := fun W hW => h.below hW
  have hq : ∀ s, pieceQ (nx7 [] n).1 s = .iface 157 (.agg #[s, .int .i64 (min n 1099511627776)]) := fun s => pieceQ_3 rfl
  have HQ : Hid _ := hq
  obtain ⟨hn1, hn2⟩ := hn
  clear h hq
  by_cases hm : n ≤ 1099511627776
  · have hmin : Hid (min n 1099511627776 = n) := by show _ = _; omega
    go_enter Tryz.func88, Tryz.ntmps88
    go_wp2_with fail
    refine cD.mono ?_; rintro r w2 ⟨rfl, hb2⟩
    clear cD
    go_wp2
    go_ret
    exact ⟨.slice none 0 0, by rw [HQ.out, hmin.out]; rfl, World.ownsRow_nil _ _ _ _, HW.out _ hb2, FrW.of_below hb2⟩
  · have hmin : Hid (min n 1099511627776 = 1099511627776) := by show _ = _; omega
    go_enter Tryz.func88, Tryz.ntmps88
    go_wp2_with fail
    refine cD.mono ?_; rintro r w2 ⟨rfl, hb2⟩
    clear cD
    go_wp2
    go_ret
    exact ⟨.slice none 0 0, by rw [HQ.out, hmin.out]; rfl, World.ownsRow_nil _ _ _ _, HW.out _ hb2, FrW.of_below hb2⟩
set_option maxHeartbeats 4000000 in
set_option maxRecDepth 100000 in
theorem takeAll_any {B q g : Nat} {x : Op5} {r : List Op5} (n : Int) (w : World) (h : WkV w B q g (x :: r)) (hg : opE x = 0) (hn : len5 x ≤ n) (hr : r.length ≤ 8388608) :
    Calls Tryz.prog 88 #[.pointer (some ⟨q, 0, none⟩), .int .i64 n] w fun e w' => ∃ s, e = .returned (pieceQ (nx7 (x :: r) n).1 s) ∧ OwnA w' B s (nx7 (x :: r) n).1.A ∧ WkV w' B q g (nx7 (x :: r) n).2 ∧ FrW q g w w' := by
  rw [nx_all hn]
  have cD := doneW_any w h
  rw [decide_eq_false (List.cons_ne_nil _ _)] at cD
  obtain ⟨off, cap, s, c0, f0, hc, c1, f1, hs⟩ := h.read1
  have hl : (0 : Int) < ((r.length + 1 : Nat) : Int) := by omega
  obtain ⟨m, hm⟩ : ∃ m, r.length = m := ⟨_, rfl⟩
  obtain ⟨u, y, hux⟩ := pieceQ_if x s
  have HU : Hid (pieceQ x s = .iface u y) := hux
  have HM : Hid (r.length = m) := hm
  have HC : Hid (w.cell? ⟨q, 0, none⟩ = some (.slice (some ⟨g, off, none⟩) (r.length + 1) cap) ∧ OwnA w B s x.A ∧ WkV w B q g (x :: r)) := ⟨c0, hs, h⟩
  have hnn : Hid (len5 x ≤ n) := hn
  rw [hux] at c1
  rw [hm] at c0 hl hc hr
  obtain ⟨L, hL⟩ : ∃ L, len5 x = L := ⟨_, rfl⟩
  have HL : Hid (len5 x = L) := hL
  rw [hL] at hn
  have hge : L ≤ n := hn
  have hne : q ≠ g := h.ne
  have hne2 : g ≠ q := Ne.symm hne
  clear h hux hm hs hn hL
  go_enter Tryz.func88, Tryz.ntmps88
  go_wp2_with fail
  refine cD.mono ?_; rintro r' w2 ⟨rfl, hb2⟩
  have d0 := (hb2.cell (lt_of_cell c0)).trans c0
  have d1 := (hb2.cell (lt_of_cell c1)).trans c1
  have e0 := (hb2.frozen (lt_of_cell c0)).trans f0
  have HB2 : Hid (Below w.heap.size w w2) := hb2
  clear cD c0 c1 f0 f1 hb2
  go_wp2_with (refine wpList_lenP rfl (.tmp 21) rfl x s HU.out.symm hg ?_; rw [HL.out]; intro w3 hb3; have d0' := (hb3.cell (lt_of_cell d0)).trans d0; have e0' := (hb3.frozen (lt_of_cell d0)).trans e0; clear d0 e0)
  all_goals
    have H3 : WkV w3 B q g (x :: r) := (HC.out.2.2.below HB2.out).below hb3
    have C3 : w3.cell? ⟨q, 0, none⟩ = some (.slice (some ⟨g, off, none⟩) (r.length + 1) cap) := by rw [HM.out]; exact d0'
    have O3 : OwnA w3 B s x.A := owns_below (owns_below HC.out.2.1 HB2.out) hb3
    have F3 : FrW q g w w3 := (FrW.of_below HB2.out).trans (FrW.of_below hb3)
  · have hr0 : r = [] := List.eq_nil_of_length_eq_zero (by have := HM.out; omega)
    have hm0 : m = 0 := by omega
    subst hr0
    obtain ⟨a1, a2⟩ := H3.drop (p' := some ⟨g, off, none⟩) (c' := 0) C3 (Nat.zero_le _) (fun h => absurd rfl h)
    subst hm0
    go_ret
    exact ⟨s, by rw [HU.out]; rfl, keepA_own O3 a2.keepA, a1, F3.trans a2⟩
  · obtain ⟨a1, a2⟩ := H3.drop (p' := some ⟨g, off + 1, none⟩) (c' := cap - 1) C3 (by rw [HM.out]; omega) (fun _ => rfl)
    rw [HM.out] at a1 a2
    go_ret
    exact ⟨s, by rw [HU.out]; rfl, keepA_own O3 a2.keepA, a1, F3.trans a2⟩
set_option maxHeartbeats 4000000 in
set_option maxRecDepth 100000 in
theorem takePart_any {B q g : Nat} {x : Op5} {r : List Op5} (n : Int) (w : World) (h : WkV w B q g (x :: r)) (hg : opE x = 0) (h1 : 1 ≤ n) (hn : ¬ len5 x ≤ n) (ht : x.t.size ≤ 8388608) (hA : x.A.length ≤ 2097152) :
    Calls Tryz.prog 88 #[.pointer (some ⟨q, 0, none⟩), .int .i64 n] w fun e w' => ∃ s, e = .returned (pieceQ (nx7 (x :: r) n).1 s) ∧ OwnA w' B s (nx7 (x :: r) n).1.A ∧ WkV w' B q g (nx7 (x :: r) n).2 ∧ FrW q g w w' := by
  rw [nx_part hn]
  have cx := cut7 hg h1 (by omega)
  have cD := doneW_any w h
  rw [decide_eq_false (List.cons_ne_nil _ _)] at cD
  obtain ⟨off, cap, s, c0, f0, hc, c1, f1, hs⟩ := h.read1
  obtain ⟨ps, cs, rfl⟩ := own_slice hs
  have cC := fun W (hW : Below w.heap.size w W) => cut7_any ps x.A.length cs W hg h1 (by omega) ht (own_RN (owns_below hs hW)) hA
  have hl : (0 : Int) < ((r.length + 1 : Nat) : Int) := by omega
  obtain ⟨m, hm⟩ : ∃ m, r.length = m := ⟨_, rfl⟩
  have HM : Hid (r.length = m) := hm
  obtain ⟨u, y, hux⟩ := pieceQ_if x (.slice ps x.A.length cs)
  have HU : Hid (pieceQ x (.slice ps x.A.length cs) = .iface u y) := hux
  obtain ⟨ut, yt, hut⟩ := pieceQ_if (tl7 x n) (.slice ps x.A.length cs)
  have HT : Hid (pieceQ (tl7 x n) (.slice ps x.A.length cs) = .iface ut yt) := hut
  have HX : Hid ((hd7 x n).A = x.A ∧ (tl7 x n).A = x.A) := ⟨cx.hA, cx.tA⟩
  have HC : Hid (w.cell? ⟨q, 0, none⟩ = some (.slice (some ⟨g, off, none⟩) (r.length + 1) cap) ∧ OwnA w B (.slice ps x.A.length cs) x.A ∧ WkV w B q g (x :: r)) := ⟨c0, hs, h⟩
  rw [hux] at c1
  simp only [hux, hut] at cC
  rw [hm] at c0 hl hc
  obtain ⟨L, hL⟩ : ∃ L, len5 x = L := ⟨_, rfl⟩
  have HL : Hid (len5 x = L) := hL
  rw [hL] at hn
  have hge : ¬ L ≤ n := hn
  have hne : q ≠ g := h.ne
  have hne2 : g ≠ q := Ne.symm hne
  have hB : B ≤ w.heap.size := by have := h.lq; have := h.lt; omega
  clear h hux hm hs hn hL hut cx
  go_enter Tryz.func88, Tryz.ntmps88
  go_wp2_with fail
  refine cD.mono ?_; rintro r' w2 ⟨rfl, hb2⟩
  have d0 := (hb2.cell (lt_of_cell c0)).trans c0
  have d1 := (hb2.cell (lt_of_cell c1)).trans c1
  have e1 := (hb2.frozen (lt_of_cell c1)).trans f1
  have HB2 : Hid (Below w.heap.size w w2) := hb2
  clear cD c0 c1 f0 f1 hb2
  go_wp2_with (refine wpList_lenP rfl (.tmp 21) rfl x (.slice ps x.A.length cs) HU.out.symm hg ?_; rw [HL.out]; intro w3 hb3; have d0' := (hb3.cell (lt_of_cell d0)).trans d0; have d1' := (hb3.cell (lt_of_cell d1)).trans d1; have e1' := (hb3.frozen (lt_of_cell d1)).trans e1; have b3 := HB2.out.trans (hb3.mono HB2.out.size); clear d0 d1 e1 hb3)
  refine (cC _ b3).mono ?_; rintro r' w4 ⟨s1, rfl, own4, hb4⟩
  obtain ⟨uh, yh, huh⟩ := pieceQ_if (hd7 x n) s1
  have HH : Hid (pieceQ (hd7 x n) s1 = .iface uh yh) := huh
  rw [huh]
  have d0 := (hb4.cell (lt_of_cell d0')).trans d0'
  have d1 := (hb4.cell (lt_of_cell d1')).trans d1'
  have e1 := (hb4.frozen (lt_of_cell d1')).trans e1'
  have b4 := b3.trans (hb4.mono b3.size)
  have H4 : Hid (WkV w4 B q g (x :: r) ∧ OwnA w4 B (.slice ps x.A.length cs) x.A ∧ OwnA w4 B s1 x.A ∧ FrW q g w w4) := ⟨HC.out.2.2.below b4, owns_below HC.out.2.1 b4, own_weaken own4 (Nat.le_trans hB b3.size), FrW.of_below b4⟩
  clear cC huh own4 hb4 b3 b4 d0' d1' e1' hB
  go_wp2
  have C4 : w4.cell? ⟨q, 0, none⟩ = some (.slice (some ⟨g, off, none⟩) (r.length + 1) cap) := by rw [HM.out]; exact d0
  go_ret
  obtain ⟨g1, g2, g3, g4⟩ := H4.out
  obtain ⟨a1, a2⟩ := g1.put (x' := tl7 x n) (s' := .slice ps x.A.length cs) C4 (by rw [HX.out.2]; exact g2)
  rw [HT.out] at a1 a2
  exact ⟨s1, by rw [HH.out]; rfl, by rw [HX.out.1]; exact keepA_own g3 a2.keepA, a1, g4.trans a2⟩
theorem take_any {B q g : Nat} {R : List Op5} {N T K : Nat} (n : Int) (w : World) (h : WkV w B q g R) (hR : Rst R N T K) (hT : T ≤ 8388608) (hK : K ≤ 2097152) (hN : N ≤ 8388608) (hn : 1 ≤ n ∧ n ≤ 9223372036854775807) :
    Calls Tryz.prog 88 #[.pointer (some ⟨q, 0, none⟩), .int .i64 n] w fun e w' => ∃ s, e = .returned (pieceQ (nx7 R n).1 s) ∧ OwnA w' B s (nx7 R n).1.A ∧ WkV w' B q g (nx7 R n).2 ∧ FrW q g w w' := by
  cases R with
  | nil => exact takeNil_any n w h hn
  | cons x r =>
    have hx := hR.good x (List.mem_cons_self ..)
    by_cases hl : len5 x ≤ n
    · exact takeAll_any n w h hx hl (by have := hR.len; simp at this; omega)
    · exact takePart_any n w h hx hn.1 hl (Nat.le_trans (hR.size x (List.mem_cons_self ..)) hT) (Nat.le_trans (hR.attr x (List.mem_cons_self ..)) hK)
end Go.Proofs.YtalfdjglbbmjcaaGreatDoor

/- Next and Rest of a Walker. -/
namespace Go.Proofs.YtalfdjglbbmjcaaGreatDoor
open Go Go.RowKit Go.Lib
set_option linter.unusedVariables false

set_option maxHeartbeats 2000000 in
set_option maxRecDepth 100000 in
theorem nextNo_any {I : List Nat} {a : Nat → Addr} (q : Nat) (n : Int) (w : World) (hI : 11 ∈ I) (hS : Std I a w) (hn : n < 1) :
    Calls Tryz.prog 28 #[.pointer (some ⟨q, 0, none⟩), .int .i64 n] w fun e w' => e = .returned (.tuple #[.nilIface, errV a 11]) ∧ Below w.heap.size w w' := by
  have c0 := hS.er.cell 11 hI
  have e0 : gE 11 = 1 := rfl
  rw [e0] at c0
  clear hS hI e0
  go_enter Tryz.func28, Tryz.ntmps28
  go_wp2
  go_quiet (fail)
  go_wp2
  go_ret2
  exact ⟨rfl, below_drewN (Below.refl _ _) _⟩
set_option maxHeartbeats 2000000 in
set_option maxRecDepth 100000 in
theorem nextW_any {B q g : Nat} {R : List Op5} {N T K : Nat} (n : Int) (w : World) (h : WkV w B q g R) (hR : Rst R N T K) (hT : T ≤ 8388608) (hK : K ≤ 2097152) (hN : N ≤ 8388608) (hn : 1 ≤ n ∧ n ≤ 9223372036854775807) :
    Calls Tryz.prog 28 #[.pointer (some ⟨q, 0, none⟩), .int .i64 n] w fun e w' => ∃ s, e = .returned (.tuple #[pieceQ (nx7 R n).1 s, .nilIface]) ∧ OwnA w' B s (nx7 R n).1.A ∧ WkV w' B q g (nx7 R n).2 ∧ FrW q g w w' := by
  have cT := take_any n w h hR hT hK hN hn
  have hn1 : ¬ n < 1 := by omega
  obtain ⟨P, hP⟩ : ∃ P, (nx7 R n).1 = P := ⟨_, rfl⟩
  rw [hP] at cT ⊢
  clear h hR hP
  go_enter Tryz.func28, Tryz.ntmps28
  go_wp2_with fail
  refine cT.mono ?_; rintro r w2 ⟨s, rfl, own2, h2, f2⟩
  obtain ⟨u, x, hux⟩ := pieceQ_if P s
  have HU : Hid (pieceQ P s = .iface u x) := hux
  have HW : Hid (OwnA w2 B s P.A ∧ WkV w2 B q g (nx7 R n).2 ∧ FrW q g w w2) := ⟨own2, h2, f2⟩
  rw [hux]
  clear cT own2 h2 f2 hux
  go_wp2
  go_ret2
  exact ⟨s, by rw [HU.out]; rfl, HW.out⟩
/-- What a Walker's row tells, one by one. -/
theorem WkV.row {w : World} {B q g : Nat} {R : List Op5} (h : WkV w B q g R) : ∃ p cap, w.cell? ⟨q, 0, none⟩ = some (.slice p R.length cap) ∧ R.length ≤ cap ∧ ∀ j, j < R.length → ∃ off e s, p = some ⟨g, off, none⟩ ∧ R[j]? = some e ∧ w.cell? ⟨g, off + j, none⟩ = some (pieceQ e s) ∧ OwnA w B s e.A := by
  obtain ⟨_, _, _, p, cap, h4, h5, h6⟩ := h
  refine ⟨p, cap, by rw [cell_of_heap h4]; rfl, h5, fun j hj => ?_⟩
  obtain ⟨off, cs, e, hgo, hr⟩ := h6 (fun h0 => by rw [h0] at hj; simp at hj)
  obtain ⟨s, a1, a2⟩ := hr j R[j] (List.getElem?_eq_getElem hj)
  exact ⟨off, R[j], s, e, List.getElem?_eq_getElem hj, by rw [cell_of_heap hgo]; exact a1, a2⟩
set_option maxHeartbeats 4000000 in
set_option maxRecDepth 100000 in
theorem restW_any {I : List Nat} {a : Nat → Addr} {B q g : Nat} {R : List Op5} {N T K : Nat} (w : World) (hI : ∀ i ∈ IxO, i ∈ I) (hS : Std I a w) (h : WkV w B q g R) (hR : Rst R N T K) (hT : T ≤ 8388608) (hK : K ≤ 1048576) (hN : N ≤ 1048576) :
    Calls Tryz.prog 24 #[.pointer (some ⟨q, 0, none⟩)] w fun e w' => ∃ v', e = .returned v' ∧ DelV w' w.heap.size w.heap.size v' R ∧ Below w.heap.size w w' := by
  have ok := hR.okE hT (by omega)
  have hC : Hid (∀ v W, Below w.heap.size w W → CoO W w.heap.size v R → Calls Tryz.prog 52 #[v] W fun r w' => ∃ dv, r = .returned (.tuple #[dv, .int .i64 0, .nilIface]) ∧ DelV w' w.heap.size w.heap.size dv R ∧ Below W.heap.size W w') := fun v W hW hv => by
    have e0 := ofE_ok R 0 0 ok.good (by have := ok.base; omega) (by have := ok.res; omega)
    have := buildOf_any v R W hI (hS.below hW) hv.re ok.fitL (Nat.le_trans hR.len hN) ok.txt
    rw [e0] at this
    refine this.mono ?_
    rintro r w' ⟨dv, rfl, h1, -, h3⟩
    refine ⟨dv, rfl, ?_, h3⟩
    have d := h1 rfl
    rw [hR.canon] at d
    obtain ⟨q', pv, PL, x1, x2, x3, x4, x5⟩ := d
    exact ⟨q', pv, PL, x1, Nat.le_trans hW.size x2, x3, own_weaken x4 hW.size, x5.weaken hW.size⟩
  obtain ⟨p, cap, c0, hcap, hrd⟩ := h.row
  have HV : Hid (∀ j, j < R.length → ∃ off e s, p = some ⟨g, off, none⟩ ∧ R[j]? = some e ∧ w.cell? ⟨g, off + j, none⟩ = some (pieceQ e s) ∧ OwnA w B s e.A) := hrd
  have HG : Hid (∀ o ∈ R, opE o = 0 ∧ o.A.length ≤ 2097152) := fun o ho => ⟨hR.good o ho, by have := hR.attr o ho; omega⟩
  have hl : R.length ≤ 1048576 := Nat.le_trans hR.len hN
  obtain ⟨n, hn⟩ : ∃ n, R.length = n := ⟨_, rfl⟩
  have HN : Hid (R.length = n) := hn
  rw [hn] at c0 hl HV hcap
  clear h hR hrd hn ok hS
  go_enter Tryz.func24, Tryz.ntmps24
  go_wp2_with (at_make; refine wpList_make_op _ rfl _ _ rfl w.heap.size .i64 .i64 _ n rfl rfl rfl (by omega) (Nat.le_refl _) ?_; intro v0 w1 hown hgr; have hb1 : Below w.heap.size w w1 := (Below.refl _ _).grown hgr (Nat.le_refl _) (fun k hk => by cases hk); have c1 := (hb1.cell (lt_of_cell c0)).trans c0; clear hgr)
  go_loopw [3, 20] (fun al i wr => ∃ (k : Nat) (D : List OV), k ≤ n ∧ i = .int .i64 k ∧ D.length = k ∧ OwnO wr w.heap.size al D ∧ OwD wr w.heap.size D (R.take k) ∧ Below w.heap.size w wr) (fun _ i _ => n - (RowKit.intOf i).toNat)
  case atStart => exact ⟨0, [], Nat.zero_le _, rfl, rfl, hown, .nil, hb1⟩
  case round =>
    clear hown hb1 c1
    obtain ⟨k, D, hk, rfl, hDl, hown, hsp, hbw⟩ := hrel
    by_cases hlt : k < n
    · have hltI : (k : Int) < n := by omega
      obtain ⟨off, e, s, rfl, he, hc, hs⟩ := HV.out k hlt
      have c2 := (hbw.cell (lt_of_cell hc)).trans hc
      have hs2 := owns_below hs hbw
      obtain ⟨hg1, hA1⟩ := HG.out e (List.mem_of_getElem? he)
      have HT : Hid (R.take (k + 1) = R.take k ++ [e]) := by show _ = _; rw [List.take_add_one, he]; rfl
      have hge : Hid (∀ j, u3.ownBlock = some j → w.heap.size ≤ j) := fun j hj => (owns_block hown j hj).1
      have HO : Hid (OwnO wr w.heap.size u3 D ∧ OwD wr w.heap.size D (R.take k)) := ⟨hown, hsp⟩
      have hlz : w.heap.size ≤ wr.heap.size := hbw.size
      have hR2 := own_RN hs2
      obtain ⟨u, y, hux⟩ := pieceQ_if e s
      have HU : Hid (pieceQ e s = .iface u y) := hux
      have HK2 : Hid (∀ v5 w5, OwnA w5 wr.heap.size v5 e.A → Below wr.heap.size wr w5 → ∃ p5 c5, v5 = .slice p5 e.A.length c5 ∧ Below w.heap.size w (w5.alloc (.cells (opC e v5) 33)) ∧ OwnO (w5.alloc (.cells (opC e v5) 33)) w.heap.size u3 D ∧ OpAt (w5.alloc (.cells (opC e v5) 33)) w5.heap.size 0 (e.k, e.t, e.v, e.c, p5, e.A.length, c5) ∧ OwD (w5.alloc (.cells (opC e v5) 33)) w.heap.size (D ++ [(e.k, e.t, e.v, e.c, p5, e.A.length, c5)]) (R.take (k + 1))) := fun v5 w5 own5 hb5 => by
        obtain ⟨p5, c5, rfl⟩ := own_slice own5
        have ba : Below w5.heap.size w5 (w5.alloc (.cells (opC e (.slice p5 e.A.length c5)) 33)) := (Below.refl _ _).alloc (Nat.le_refl _) _
        have bw5 : Below w.heap.size w w5 := hbw.trans (hb5.mono hlz)
        refine ⟨p5, c5, rfl, bw5.trans (ba.mono bw5.size), owns_below (owns_below hown hb5) ba, ⟨by simp, by simp, by simp, by simp, by simp, by simp, by simp⟩, ?_⟩
        rw [HT.out]
        exact forall2_append ((hsp.below hb5).below ba) (.cons ⟨rfl, rfl, rfl, rfl, own_weaken (owns_below own5 ba) hlz⟩ .nil)
      rw [hux] at c2
      have hkI : (k : Int) < (n : Int) := hltI
      clear he hc hs hs2 hown hsp hux
      have hl33 : D.length ≤ 33554432 := by omega
      go_wp2_with (first
        | (refine wpList_opP rfl (.tmp 25) rfl e s HU.out.symm hg1 hR2 hA1 ?_; intro v5 w5 own5 hb5; obtain ⟨p5, c5, rfl, b7, o7, at7, d7⟩ := HK2.out v5 w5 own5 hb5; have HO7 : Hid (OwnO _ w.heap.size u3 D ∧ OpAt _ w5.heap.size 0 _) := ⟨o7, at7⟩; have HP7 : Hid (OwD _ w.heap.size _ _) := d7; have bw7 : Below w.heap.size w _ := b7; clear own5 hb5 o7 at7 d7 b7)
        | (at_builtin; refine wpList_append_ops rfl (.tmp 24) (.tmp 27) rfl w.heap.size u3 D rfl HO7.out.1 w5.heap.size 1 _ rfl HO7.out.2 hl33 bw7.size ?_; intro v8 w8 own8 gr8 hat8; have hsp8 : Hid (OwD w8 w.heap.size _ _) := HP7.out.keep (keepA_grownO HO7.out.1 gr8); have b8 := bw7.grown gr8 bw7.size (fun j hj => hge.out j hj); have HO8 : Hid (OwnO w8 w.heap.size v8 _) := own8; clear own8 gr8 hat8 HO7 HP7))
      go_roundw
      case rel => exact ⟨k + 1, _, by omega, by go_num, by simp [hDl], HO8.out, hsp8.out, b8⟩
      case measure => simp [RowKit.intOf]; omega
    · have hltI : ¬ (k : Int) < n := by omega
      have hE : R.take k = R := List.take_of_length_le (by rw [HN.out]; omega)
      rw [hE] at hsp
      have cO := hC.out u3 wr hbw ⟨D, hown, hsp⟩
      clear hown hsp hC
      go_wp2_with fail
      refine cO.mono ?_; rintro r w5 ⟨dv, rfl, d5, hb5⟩
      have b5 := hbw.trans (hb5.mono hbw.size)
      have HD : Hid (DelV w5 w.heap.size w.heap.size dv R) := d5
      clear cO d5 hb5
      go_wp2
      go_ret
      exact ⟨dv, rfl, HD.out, b5⟩
end Go.Proofs.YtalfdjglbbmjcaaGreatDoor
