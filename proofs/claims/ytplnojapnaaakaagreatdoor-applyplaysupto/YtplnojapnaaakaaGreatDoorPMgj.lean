/- The document's Canon of layer 10, of inserts; Doc. The document's Canon of layer 10, of inserts; Doc. The document's Doc of layer 10: the document of cells. The document's answer: Document and List of any operations. The document's insert, IsDoc, Base, Result, Refuse of layer 10. Stage 10, purely: what the document's Apply may be asked of. What vellumref10.Done answers: the walk. What vellumref10.Refuse and Apply answer. Of all lists of operations vellumlaw10.ApplyPlays answers true. Of all lists of operations vellumlaw10.ApplyPlays answers true. -/
import Derived.Test.YtplnojapnaaakaaGreatDoorPMgi
import Derived.Test.YtplnojapnaaakaaGreatDoorPMgg
import Derived.Test.YtplnojapnaaakaaGreatDoorPMga
import Derived.Test.YtplnojapnaaakaaGreatDoorPMgf
import Derived.Deep.RegionHeld3
import Derived.Test.YtplnojapnaaakaaGreatDoorPMge

/- The document's Canon of layer 10, of inserts; Doc. -/
namespace Go.Proofs.YtplnojapnaaakaaGreatDoor
open Go Go.RowKit Go.Lib
set_option linter.unusedVariables false
theorem wel_ins12 {o : Op5} (h : Wel o) (hk : o.k = 1 ∨ o.k = 2) : Ins o := (h.resolve_right (by rintro (h | h) <;> omega)).1
theorem push_A {out : List Op5} {o y : Op5} (h : y ∈ pushL out o) : (∃ x ∈ out, y.A = x.A) ∨ y.A = o.A := by
  rcases List.eq_nil_or_concat out with rfl | ⟨F, x, rfl⟩
  · rw [push_nil, List.mem_singleton] at h; exact .inr (by rw [h])
  · rw [List.concat_eq_append] at *
    by_cases hc : x.k ≠ o.k ∨ o.k = 2 ∨ x.A ≠ o.A
    · rw [push_apart hc] at h
      rcases List.mem_append.1 h with h | h
      · exact .inl ⟨y, h, rfl⟩
      · exact .inr (by rw [List.mem_singleton.1 h])
    · rw [push_join hc] at h
      rcases List.mem_append.1 h with h | h
      · exact .inl ⟨y, List.mem_append.2 (.inl h), rfl⟩
      · exact .inl ⟨x, List.mem_append.2 (.inr (List.mem_singleton.2 rfl)), by rw [List.mem_singleton.1 h]; rfl⟩
theorem fold_A : ∀ (E out : List Op5) {y : Op5}, y ∈ E.foldl pushL out → ∃ x, (x ∈ out ∨ x ∈ E) ∧ y.A = x.A
  | [], out, y, h => ⟨y, .inl h, rfl⟩
  | o :: r, out, y, h => by
    obtain ⟨x, hx, e⟩ := fold_A r (pushL out o) h
    rcases hx with hx | hx
    · rcases push_A hx with ⟨z, hz, e2⟩ | e2
      · exact ⟨z, .inl hz, e.trans e2⟩
      · exact ⟨o, .inr (List.mem_cons_self ..), e.trans e2⟩
    · exact ⟨x, .inr (List.mem_cons_of_mem _ hx), e⟩
theorem fold_wel {E : List Op5} (h : ∀ o ∈ E, Wel o) (hd : DocL E) : ∀ y ∈ E.foldl pushL [], Wel y :=
  (gap_chn (out := []) ⟨fun o h => (by cases h), rfl, fun F x e => (by simp at e)⟩ fun o ho => ⟨h o ho, hd o ho⟩).1.wel
/-- What the document's Canon may be asked of. -/
structure CanR (E : List Op5) : Prop where
  wel : ∀ o ∈ E, Wel o
  doc : DocL E
  n : ∀ o ∈ E, o.A.length ≤ 2097152
  len : E.length ≤ 16777216
  txt : txtS E ≤ 8388608
theorem CanR.take {E : List Op5} (h : CanR E) (k : Nat) : CanR (E.take k) :=
  ⟨fun o ho => h.wel o (List.mem_of_mem_take ho), fun o ho => h.doc o (List.mem_of_mem_take ho), fun o ho => h.n o (List.mem_of_mem_take ho), by rw [List.length_take]; have := h.len; omega, Nat.le_trans (txtS_take E k) h.txt⟩
theorem joined10_doc {B : Nat} (v : Value) (D : List OV) (E : List Op5) (o : Op5) (sp : Option Addr) (sl sc : Nat) (w : World) (hB : B ≤ w.heap.size) (hE : CanR E) (hv : OwnO w B v D) (hD : ReOw w B D (E.foldl pushL [])) (ho : OwnA w B (.slice sp sl sc) o.A) (hw : Wel o) (hk : o.k = 1 ∨ o.k = 2) (hn : o.A.length ≤ 2097152) (ht : o.t.size ≤ 8388608) :
    Calls Tryz.prog 140 #[v, opV o (.slice sp sl sc)] w fun e w' => PushW B w w' v e (pushL (E.foldl pushL []) o) := by
  have hl := fold_len E []
  have hlen := hE.len
  have htx := fold_txt E []
  have hwl := fold_wel hE.wel hE.doc
  have hdl := fold_doc E [] (fun o h => by cases h) hE.doc
  have hA : ∀ y ∈ E.foldl pushL [], y.A.length ≤ 2097152 := fun y hy => by
    obtain ⟨x, hx, e⟩ := fold_A E [] hy
    rw [e]
    exact hE.n x (hx.resolve_left (by simp))
  have hte := hE.txt
  rw [List.length_nil, Nat.zero_add] at hl
  generalize E.foldl pushL [] = P at *
  rcases List.eq_nil_or_concat P with rfl | ⟨F, x, rfl⟩
  · rw [push_nil]
    exact joined10_nil v D [] o sp sl sc w hB hv hD ho (by omega) rfl
  · rw [List.concat_eq_append] at *
    have hxm : x ∈ F ++ [x] := List.mem_append.2 (.inr (List.mem_singleton.2 rfl))
    have hxw := hwl x hxm
    have hxk := hdl x hxm
    by_cases hc : x.k ≠ o.k ∨ o.k = 2
    · rw [push_apart (hc.imp id .inl)]
      exact joined10_kind v D (F ++ [x]) o sp sl sc w hB hv hD ho (by omega) F x rfl hc
    · have h1 : x.k = o.k := Decidable.byContradiction fun h => hc (.inl h)
      have h2 : o.k ≠ 2 := fun h => hc (.inr h)
      have ix := wel_ins12 hxw hxk
      have io := wel_ins12 hw hk
      have hxv : x.v = z0 := by
        rcases ix.kind with ⟨_, h⟩ | ⟨h, _⟩
        · exact h
        · omega
      have hsz := txtS_mem hxm
      have e0 : txtS ([] : List Op5) = 0 := rfl
      have := joined10_same v D (F ++ [x]) o sp sl sc w hB hv hD ho (by omega) F x rfl h1 h2 hxv (hA x hxm) hn (by omega) (by rw [ix.count, io.count]; omega)
      by_cases hAA : x.A = o.A
      · rw [if_pos hAA] at this
        rw [push_join (by rintro (h | h | h); exact h h1; exact h2 h; exact h hAA)]
        exact this
      · rw [if_neg hAA] at this
        rw [push_apart (.inr (.inr hAA))]
        exact this
theorem ReO.of_ow {w : World} {B : Nat} {v : Value} {D : List OV} {E : List Op5} (h : OwnO w B v D) (hD : ReOw w B D E) : ReO w v E := ⟨D, own_rowO h, hD.re⟩
end Go.Proofs.YtplnojapnaaakaaGreatDoor

/- The document's Canon of layer 10, of inserts; Doc. -/
namespace Go.Proofs.YtplnojapnaaakaaGreatDoor
open Go Go.RowKit Go.Lib
set_option linter.unusedVariables false
set_option maxHeartbeats 4000000 in
set_option maxRecDepth 100000 in
theorem canon10_any (v : Value) (E : List Op5) (w : World) (hv : ReO w v E) (hE : CanR E) :
    Calls Tryz.prog 119 #[v] w fun r w' => ∃ v', r = .returned v' ∧ (∃ D', OwnO w' w.heap.size v' D' ∧ ReOw w' w.heap.size D' (canonL E)) ∧ Below w.heap.size w w' := by
  rw [canon_doc hE.doc]
  obtain ⟨DO, ⟨p, cap, rfl, hcap, hnz, hat⟩, hre⟩ := hv
  have hDE := forall2_len hre
  obtain ⟨m, hm⟩ : ∃ m, DO.length = m := ⟨_, rfl⟩
  rw [hm] at hcap ⊢
  have hlm : m ≤ 16777216 := by rw [← hm, hDE]; exact hE.len
  have HM : Hid (DO.length = m ∧ E.length = m) := ⟨hm, by rw [← hDE, hm]⟩
  have HA : Hid (∀ (j : Nat) (d : OV), DO[j]? = some d → ∃ b off, p = some ⟨b, off, none⟩ ∧ OpAt w b (off + j * 7) d) := hat
  have HE : Hid (ReD w DO E ∧ CanR E) := ⟨hre, hE⟩
  clear hm hDE hE hat hre hnz
  have o0 := own_emptyO w w.heap.size (Nat.le_refl _)
  have b0 := (Below.refl w.heap.size w).alloc (Nat.le_refl _) (.cells #[] 33)
  obtain ⟨W0, hW0⟩ : ∃ W, W = w.alloc (.cells #[] 33) := ⟨_, rfl⟩
  obtain ⟨v0, hv0⟩ : ∃ v0 : Value, v0 = .slice (some ⟨w.heap.size, 0, none⟩) 0 0 := ⟨_, rfl⟩
  rw [← hW0, ← hv0] at o0
  rw [← hW0] at b0
  go_enter Tryz.func119, Tryz.ntmps119
  go_wp2
  rw [← hW0, ← hv0]
  clear hW0 hv0
  go_loopw [3, 4, 11] (fun o z i wr => z = .int .i64 0 ∧ ∃ (k : Nat) (D : List OV), k ≤ m ∧ i = .int .i64 k ∧ Hid (OwnO wr w.heap.size o D ∧ ReOw wr w.heap.size D ((E.take k).foldl pushL [])) ∧ Below w.heap.size w wr) (fun _ _ i _ => m - (RowKit.intOf i).toNat)
  case atStart => exact ⟨rfl, 0, [], Nat.zero_le _, rfl, ⟨o0, by rw [List.take_zero]; exact .nil⟩, b0⟩
  case round =>
    clear o0 b0
    obtain ⟨rfl, k, D, hk, rfl, HD, hbw⟩ := hrel
    by_cases hlt : k < m
    · have hltI : (k : Int) < m := by omega
      obtain ⟨d, hd⟩ : ∃ d, DO[k]? = some d := ⟨_, List.getElem?_eq_getElem (by rw [HM.out.1]; exact hlt)⟩
      obtain ⟨e, he, hr⟩ := forall2_get HE.out.1 k d hd
      obtain ⟨b, off, rfl, hin⟩ := HA.out k d hd
      obtain ⟨c0, c1, c2, c3, c4, c5, c6⟩ := hin.below hbw
      have hem := List.mem_of_getElem? he
      have hke := HE.out.2.doc e hem
      obtain ⟨h1, h2, h3, h4, h5⟩ := hr
      have HT : Hid ((E.take (k + 1)).foldl pushL [] = pushL ((E.take k).foldl pushL []) e ∧ Wel e ∧ (e.k = 1 ∨ e.k = 2) ∧ e.A.length ≤ 2097152 ∧ e.t.size ≤ 8388608) := ⟨fold_take he, HE.out.2.wel e hem, hke, HE.out.2.n e hem, Nat.le_trans (txtS_mem hem) HE.out.2.txt⟩
      have b1 : Below wr.heap.size wr ((wr.alloc (.cells (opC e (slV d.2.2.2.2)) 33)).alloc (.cells #[] 154)) := ((Below.refl _ _).alloc (Nat.le_refl _) _).alloc (by simp) _
      have HR : Hid (RN ((wr.alloc (.cells (opC e (slV d.2.2.2.2)) 33)).alloc (.cells #[] 154)) (slV d.2.2.2.2) e.A) := (h5.below hbw).below b1
      have m0 : ((wr.alloc (.cells (opC e (slV d.2.2.2.2)) 33)).alloc (.cells #[] 154)).heap[wr.heap.size]? = some (.cells (opC e (slV d.2.2.2.2)) 33 (0, 0)) := by rw [Below.heap_alloc _ _ _ (by simp)]; exact heap_alloc_new wr _
      have oE := own_empty' (wr.alloc (.cells (opC e (slV d.2.2.2.2)) 33)) wr.heap.size (by simp)
      rw [World.size_alloc] at oE
      have HO : Hid (OwnA ((wr.alloc (.cells (opC e (slV d.2.2.2.2)) 33)).alloc (.cells #[] 154)) wr.heap.size (.slice (some ⟨wr.heap.size + 1, 0, none⟩) 0 0) []) := oE
      have HB : Hid (Below wr.heap.size wr ((wr.alloc (.cells (opC e (slV d.2.2.2.2)) 33)).alloc (.cells #[] 154)) ∧ Below w.heap.size w wr) := ⟨b1, hbw⟩
      have HM0 : Hid _ := m0
      have hsz : wr.heap.size ≤ ((wr.alloc (.cells (opC e (slV d.2.2.2.2)) 33)).alloc (.cells #[] 154)).heap.size := b1.size
      have hAl := HT.out.2.2.2.1
      obtain ⟨dk, dt, ⟨dx, dn, du⟩, dc, sp, sl, sc⟩ := d
      simp only [slV] at c0 c1 c2 c3 c4 c5 c6 h1 h2 h3 h4 HR HO HB HM0 hsz
      obtain ⟨ek, et, ⟨ex, en, eu⟩, ec, eA⟩ := e
      simp only [Prod.mk.injEq] at h1 h2 h3 h4
      obtain ⟨h3, h5', h6⟩ := h3
      subst h1; subst h2; subst h3; subst h4; subst h5'; subst h6
      simp only [opC] at HR HO HB HM0 hsz
      simp only at hke hAl
      have k3 : (dk == 3) = false := by rw [beq_eq_false_iff_ne]; omega
      have k4 : (dk == 4) = false := by rw [beq_eq_false_iff_ne]; omega
      clear hin hd he hem h5 b1 m0 oE hbw hke
      go_wp2_with (at_builtin; refine wpList_append_row rfl (.tmp 15) (.tmp 17) rfl wr.heap.size (.slice (some ⟨wr.heap.size + 1, 0, none⟩) 0 0) [] rfl HO.out (.slice sp sl sc) eA rfl HR.out.row HR.out.nz (by simpa using hAl) hsz ?_; intro v9 w9 own9 gr9; have q0 := (gr9.block wr.heap.size (by simp <;> omega) (fun e => by simp only [Value.ownBlock, Option.some.injEq] at e; omega)).trans HM0.out; have b9 := Hid.mk' (HB.out.1.grown gr9 hsz (fun j hj => by simp only [Value.ownBlock, Option.some.injEq] at hj; omega)); have H9 := Hid.mk' own9; have r0 : w9.cell? ⟨wr.heap.size, 0, none⟩ = some (.int .i64 dk) := (by rw [cell_of_heap q0]; rfl); have r1 : w9.cell? ⟨wr.heap.size, 1, none⟩ = some (.string dt) := (by rw [cell_of_heap q0]; rfl); have r2 : w9.cell? ⟨wr.heap.size, 2, none⟩ = some (.int .i64 dx) := (by rw [cell_of_heap q0]; rfl); have r3 : w9.cell? ⟨wr.heap.size, 3, none⟩ = some (.int .i64 dn) := (by rw [cell_of_heap q0]; rfl); have r4 : w9.cell? ⟨wr.heap.size, 4, none⟩ = some (.string du) := (by rw [cell_of_heap q0]; rfl); have r5 : w9.cell? ⟨wr.heap.size, 5, none⟩ = some (.int .i64 dc) := (by rw [cell_of_heap q0]; rfl); have r6 : w9.cell? ⟨wr.heap.size, 6, none⟩ = some (.slice sp sl sc) := (by rw [cell_of_heap q0]; rfl); have f6 := frozen_of_heap q0 6; have HQ := Hid.mk' q0; obtain ⟨p9, c9, e9⟩ := own_slice own9; simp only [List.nil_append] at e9; subst e9; clear own9 gr9 q0 HM0 HO HR)
      have o9 : OwnA w9 wr.heap.size (.slice p9 eA.length c9) eA := by simpa using H9.out
      have b10 : Below wr.heap.size wr (w9.setCell ⟨wr.heap.size, 6, none⟩ (.slice p9 eA.length c9)) := b9.out.setCell (p := ⟨wr.heap.size, 6, none⟩) (Nat.le_refl _) _
      have bw10 := HB.out.2.trans (b10.mono HB.out.2.size)
      have oA := keepA_own o9 (keepA_block HQ.out (by decide) ((Row1.of_below (Below.refl _ _)).setCell rfl 6 (.slice p9 eA.length c9)))
      have cJ := joined10_doc (B := w.heap.size) u3 D (E.take k) ⟨dk, dt, (dx, dn, du), dc, eA⟩ p9 eA.length c9 (w9.setCell ⟨wr.heap.size, 6, none⟩ (.slice p9 eA.length c9)) bw10.size (HE.out.2.take k) (owns_below HD.out.1 b10) (HD.out.2.keep (keepA_below b10)) (own_weaken oA HB.out.2.size) HT.out.2.1 HT.out.2.2.1 HT.out.2.2.2.1 HT.out.2.2.2.2
      have hge : Hid (∀ j, u3.ownBlock = some j → w.heap.size ≤ j) := fun j hj => (owns_block HD.out.1 j hj).1
      have HW : Hid _ := bw10
      clear o9 b10 bw10 oA r0 r1 r2 r3 r4 r5 r6 f6 H9 b9 HQ HD HB c0 c1 c2 c3 c4 c5 c6
      go_wp2_with fail
      refine cJ.mono ?_; rintro r w11 ⟨v', D', rfl, own', re', row', _⟩
      have HX : Hid (OwnO w11 w.heap.size v' D' ∧ ReOw w11 w.heap.size D' ((E.take (k + 1)).foldl pushL [])) := ⟨own', by rw [HT.out.1]; exact re'⟩
      have b11 : Below w.heap.size w w11 := HW.out.trans (row'.below HW.out.size fun j hj => hge.out j hj)
      clear cJ own' re' row' HW
      go_wp2
      go_roundw
      case rel => exact ⟨rfl, k + 1, D', by omega, by go_num, HX.out, b11⟩
      case measure => simp [RowKit.intOf]; omega
    · have hltI : ¬ (k : Int) < m := by omega
      have hall : E.take k = E := List.take_of_length_le (by rw [HM.out.2]; omega)
      rw [hall] at HD
      have hdl := fold_doc E [] (fun o h => by cases h) HE.out.2.doc
      have hfl := fold_len E []
      obtain ⟨ln, hln⟩ : ∃ n, D.length = n := ⟨_, rfl⟩
      have hDl := forall2_len HD.out.2
      have hle := HE.out.2.len
      obtain ⟨po, co, eo⟩ := own_slice HD.out.1
      rw [hln] at eo
      subst eo
      have hfin : Hid (OwnO wr w.heap.size (.slice po ln co) D ∧ ReOw wr w.heap.size D (E.foldl pushL [])) := HD.out
      rw [List.length_nil] at hfl
      rcases Nat.eq_zero_or_pos ln with h0 | h0
      · subst h0
        clear hdl HD hall hDl hfl hle hln
        go_wp2
        go_ret
        exact ⟨_, rfl, ⟨D, hfin.out.1, hfin.out.2⟩, hbw⟩
      · obtain ⟨n, rfl⟩ : ∃ n, ln = n + 1 := ⟨ln - 1, by omega⟩
        obtain ⟨d, hd⟩ : ∃ d, D[n]? = some d := ⟨_, List.getElem?_eq_getElem (by omega)⟩
        obtain ⟨e, he, hr⟩ := forall2_get HD.out.2 n d hd
        have hek := hdl e (List.mem_of_getElem? he)
        obtain ⟨q, rfl⟩ : ∃ q, po = some ⟨q, 0, none⟩ := by
          rcases HD.out.1.2 with ⟨e, _⟩ | ⟨g, cap, cur, e, _⟩
          · simp at e
          · simp only [Value.slice.injEq] at e; exact ⟨g, e.1⟩
        have hv2 : wr.ownsRow w.heap.size 33 7 (.slice (some ⟨q, 0, none⟩) (n + 1) co) (n + 1) (cellsO D) := by
          have h := HD.out.1
          unfold OwnO at h
          rw [hln] at h
          exact h
        have hat := own_opAt hv2 n d hd
        rw [Nat.zero_add] at hat
        have c0 := hat.c0
        rw [hr.1] at c0
        have k3 : (e.k == 3) = false := by rw [beq_eq_false_iff_ne]; omega
        obtain ⟨ek, hek'⟩ : ∃ z, e.k = z := ⟨_, rfl⟩
        rw [hek'] at k3 c0
        have hw1 : IntKind.i64.wrap (n : Int) = (n : Int) := IntWalk.i64_in _ (by omega)
        have hd1 : ((n : Int) + 1) - 1 = (n : Int) := by omega
        have hw2 : IntKind.i64.wrap ((n : Int) + 1 - 1) = (n : Int) := by rw [hd1]; exact hw1
        have hz : decide (0 ≤ (n : Int)) = true := decide_eq_true (by omega)
        have hz2 : decide ((n : Int) ≥ 0) = true := decide_eq_true (by omega)
        have hmz : (0 : Int) ≤ (n : Int) := by omega
        have hmlt : (n : Int) < (n : Int) + 1 := by omega
        clear hdl HD hall hDl hfl hle hln hd he hr hek hek' hat hv2 h0
        go_wp2
        go_ret
        exact ⟨_, rfl, ⟨D, hfin.out.1, hfin.out.2⟩, hbw⟩
end Go.Proofs.YtplnojapnaaakaaGreatDoor

/- The document's Doc of layer 10: the document of cells. -/
namespace Go.Proofs.YtplnojapnaaakaaGreatDoor
open Go Go.RowKit Go.Lib
set_option linter.unusedVariables false
/-- Cells whose document may be asked for. -/
structure CelR (E : List C5) : Prop where
  good : ∀ e ∈ E, celE e = 0
  n : ∀ e ∈ E, e.2.2.2.length ≤ 2097152
  len : E.length ≤ 16777216
  txt : txtS (E.map opOf) ≤ 8388608
theorem CelR.can {E : List C5} (h : CelR E) : CanR (E.map opOf) := by
  refine ⟨fun o ho => ?_, fun o ho => ?_, fun o ho => ?_, by rw [List.length_map]; exact h.len, h.txt⟩
  · obtain ⟨c, hc, rfl⟩ := List.mem_map.1 ho
    exact (opOf_good (good_iff.1 (h.good c hc))).1
  · obtain ⟨c, hc, rfl⟩ := List.mem_map.1 ho
    exact (opOf_good (good_iff.1 (h.good c hc))).2.2
  · obtain ⟨c, hc, rfl⟩ := List.mem_map.1 ho
    rw [opOf_A]; exact h.n c hc
set_option maxHeartbeats 4000000 in
set_option maxRecDepth 100000 in
theorem doc10_any (v : Value) (D0 : List CV) (E : List C5) (w : World) (hrow : RowC w v D0) (hre : Are w D0 E) (hE : CelR E) :
    Calls Tryz.prog 83 #[v] w fun r w' => ∃ v', r = .returned v' ∧ (∃ D', OwnO w' w.heap.size v' D' ∧ ReOw w' w.heap.size D' (docOf E)) ∧ Below w.heap.size w w' := by
  have hDE := forall2_len hre
  obtain ⟨n, hn⟩ : ∃ n, D0.length = n := ⟨_, rfl⟩
  obtain ⟨p, cap, rfl, hcap, hnz, hc⟩ := hrow
  have HC : Hid (D0 ≠ [] → ∃ b off, p = some ⟨b, off, none⟩ ∧ InC w b off D0) := hc
  have HN : Hid (D0.length = n ∧ E.length = n) := ⟨hn, by rw [← hDE, hn]⟩
  have HE : Hid (Are w D0 E ∧ CelR E) := ⟨hre, hE⟩
  have hl : n ≤ 16777216 := by rw [← hn, hDE]; exact hE.len
  rw [hn] at hcap ⊢
  clear hc hn hDE hre hE hnz
  have o0 := own_emptyO w w.heap.size (Nat.le_refl _)
  have b0 := (Below.refl w.heap.size w).alloc (Nat.le_refl _) (.cells #[] 33)
  obtain ⟨W0, hW0⟩ : ∃ W, W = w.alloc (.cells #[] 33) := ⟨_, rfl⟩
  obtain ⟨v0, hv0⟩ : ∃ v0 : Value, v0 = .slice (some ⟨w.heap.size, 0, none⟩) 0 0 := ⟨_, rfl⟩
  rw [← hW0, ← hv0] at o0
  rw [← hW0] at b0
  go_enter Tryz.func83, Tryz.ntmps83
  go_wp2
  rw [← hW0, ← hv0]
  clear hW0 hv0
  go_loopw [3, 9] (fun o i wr => ∃ (k : Nat) (D : List OV), k ≤ n ∧ i = .int .i64 k ∧ Hid (OwnO wr w.heap.size o D ∧ ReOw wr w.heap.size D ((E.take k).map opOf)) ∧ Below w.heap.size w wr) (fun _ i _ => n - (RowKit.intOf i).toNat)
  case atStart => exact ⟨0, [], Nat.zero_le _, rfl, ⟨o0, by rw [List.take_zero]; exact .nil⟩, b0⟩
  case round =>
    clear o0 b0
    obtain ⟨k, D, hk, rfl, HD, hbw⟩ := hrel
    by_cases hlt : k < n
    · have hltI : (k : Int) < n := by omega
      obtain ⟨d, hd⟩ : ∃ d, D0[k]? = some d := ⟨_, List.getElem?_eq_getElem (by rw [HN.out.1]; exact hlt)⟩
      obtain ⟨e, he, hr⟩ := forall2_get HE.out.1 k d hd
      obtain ⟨b, off, rfl, hin⟩ := HC.out (by intro e; rw [e] at hd; simp at hd)
      obtain ⟨x0, x1, x2, x3, x4, x5⟩ := cellsC_get D0 k d hd
      have c0 := (hin.below hbw) _ _ x0
      have c1 := (hin.below hbw) _ _ x1
      have c2 := (hin.below hbw) _ _ x2
      have c3 := (hin.below hbw) _ _ x3
      have c4 := (hin.below hbw) _ _ x4
      have c5 := (hin.below hbw) _ _ x5
      simp only [← Nat.add_assoc] at c0 c1 c2 c3 c4 c5
      have hem := List.mem_of_getElem? he
      have bw : Below wr.heap.size wr (wr.alloc (.cells (ceC d) 175)) := (Below.refl _ _).alloc (Nat.le_refl _) _
      have cS := of10_any e (slV d.2.2.2) (wr.alloc (.cells (ceC d) 175)) (not_bad (HE.out.2.good e hem)) ((hr.2.2.2.below hbw).below bw) (HE.out.2.n e hem)
      rw [show ceP e (slV d.2.2.2) = ceV d from (ce_of hr).symm] at cS
      have HT : Hid (E.take (k + 1) = E.take k ++ [e]) := by show _ = _; rw [List.take_add_one, he]; rfl
      have hDl := forall2_len HD.out.2
      rw [List.length_map, List.length_take] at hDl
      have hlen : D.length ≤ 33554432 := by omega
      obtain ⟨o, ho⟩ : ∃ o, opOf e = o := ⟨_, rfl⟩
      have HOE : Hid (opOf e = o) := ho
      rw [ho] at cS
      clear hd he hr hin x0 x1 x2 x3 x4 x5 hem ho hDl
      obtain ⟨dk, dt, ⟨dx, dn, du⟩, ds⟩ := d
      obtain ⟨dp, dl, dcap⟩ := ds
      obtain ⟨ok, ot, ⟨ox, on, ou⟩, oc, oA⟩ := o
      simp only [slV, ceC, ceV] at c0 c1 c2 c3 c4 c5 cS bw
      have hb0 := hbw.size
      go_wp2_with fail
      refine cS.mono ?_; rintro r w5 ⟨s', rfl, hA5, hb5⟩
      have hs1 : (wr.alloc (.cells #[.int .i32 dk, .string dt, .int .i64 dx, .int .i64 dn, .string du, .slice dp dl dcap] 175)).heap.size = wr.heap.size + 1 := World.size_alloc _ _
      rw [hs1] at hA5
      obtain ⟨sp, sc, rfl⟩ := own_slice hA5
      obtain ⟨sl, hsl⟩ : ∃ sl, oA.length = sl := ⟨_, rfl⟩
      have HS5 : Hid (OwnA w5 w.heap.size (.slice sp sl sc) oA) := by show OwnA _ _ _ _; rw [← hsl]; exact own_weaken hA5 (by omega)
      have b5 := bw.trans (hb5.mono bw.size)
      have ba : Below w5.heap.size w5 (w5.alloc (.cells #[.int .i64 ok, .string ot, .int .i64 ox, .int .i64 on, .string ou, .int .i64 oc, .slice sp sl sc] 33)) := (Below.refl _ _).alloc (Nat.le_refl _) _
      have b6 := b5.trans (ba.mono b5.size)
      have HO7 : Hid (OwnO (w5.alloc (.cells #[.int .i64 ok, .string ot, .int .i64 ox, .int .i64 on, .string ou, .int .i64 oc, .slice sp sl sc] 33)) w.heap.size u3 D ∧ OpAt (w5.alloc (.cells #[.int .i64 ok, .string ot, .int .i64 ox, .int .i64 on, .string ou, .int .i64 oc, .slice sp sl sc] 33)) w5.heap.size 0 (ok, ot, (ox, on, ou), oc, sp, sl, sc)) := ⟨owns_below HD.out.1 b6, ⟨by simp, by simp, by simp, by simp, by simp, by simp, by simp⟩⟩
      have HP7 : Hid (ReOw (w5.alloc (.cells #[.int .i64 ok, .string ot, .int .i64 ox, .int .i64 on, .string ou, .int .i64 oc, .slice sp sl sc] 33)) w.heap.size (D ++ [(ok, ot, (ox, on, ou), oc, sp, sl, sc)]) ((E.take (k + 1)).map opOf)) := by
        show ReOw _ _ _ _
        rw [HT.out, List.map_append]
        exact forall2_append (HD.out.2.keep (keepA_below b6)) (.cons (by rw [HOE.out]; exact ⟨rfl, rfl, rfl, rfl, keepA_own HS5.out (keepA_below ba)⟩) .nil)
      have hge : Hid (∀ j, u3.ownBlock = some j → w.heap.size ≤ j) := fun j hj => (owns_block HD.out.1 j hj).1
      have bw7 := hbw.trans (b6.mono hbw.size)
      clear HD HT HOE cS bw hb5 b5 ba b6 c0 c1 c2 c3 c4 c5 hA5 HS5
      simp only [hsl]
      clear hsl
      go_wp2_with (at_builtin; refine wpList_append_ops rfl (.tmp 13) (.tmp 16) rfl w.heap.size u3 D rfl HO7.out.1 w5.heap.size 1 _ rfl HO7.out.2 hlen bw7.size ?_; intro v8 w8 own8 gr8 hat8)
      have b8 := bw7.grown gr8 bw7.size (fun j hj => hge.out j hj)
      have HP8 : Hid (OwnO w8 w.heap.size v8 (D ++ [(ok, ot, (ox, on, ou), oc, sp, sl, sc)]) ∧ ReOw w8 w.heap.size (D ++ [(ok, ot, (ox, on, ou), oc, sp, sl, sc)]) ((E.take (k + 1)).map opOf)) := ⟨own8, HP7.out.keep (keepA_grownO HO7.out.1 gr8)⟩
      clear HO7 HP7 own8 gr8 hat8 bw7
      go_roundw
      case rel => exact ⟨k + 1, _, by omega, by go_num, HP8.out, b8⟩
      case measure => simp [RowKit.intOf]; omega
    · have hltI : ¬ (k : Int) < n := by omega
      have hEk : E.take k = E := List.take_of_length_le (by rw [HN.out.2]; omega)
      obtain ⟨h1, h2⟩ := HD.out
      rw [hEk] at h2
      have cD := canon10_any u3 (E.map opOf) wr (ReO.of_ow h1 h2) HE.out.2.can
      obtain ⟨pu, cu, eu⟩ := own_slice h1
      clear h1 h2 HD hEk
      subst eu
      go_wp2_with fail
      refine cD.mono ?_; rintro r w5 ⟨lv, rfl, ⟨D', hf, hr'⟩, hb5⟩
      have b5 := hbw.trans (hb5.mono hbw.size)
      have HF : Hid (OwnO w5 w.heap.size lv D' ∧ ReOw w5 w.heap.size D' (docOf E)) := ⟨own_weaken hf hbw.size, hr'.weaken hbw.size⟩
      clear cD hf hr' hb5
      go_wp2
      go_ret
      exact ⟨lv, rfl, ⟨D', HF.out.1, HF.out.2⟩, b5⟩
end Go.Proofs.YtplnojapnaaakaaGreatDoor

/- The document's answer: Document and List of any operations. -/
namespace Go.Proofs.YtplnojapnaaakaaGreatDoor
open Go Go.RowKit Go.Lib
set_option linter.unusedVariables false
/-- Inserts alone? -/
def docB (E : List Op5) : Bool := E.all fun o => decide (o.k = 1 ∨ o.k = 2)
theorem docB_iff {E : List Op5} : docB E = true ↔ DocL E := by
  unfold docB DocL
  rw [List.all_eq_true]
  exact forall₂_congr fun o _ => decide_eq_true_iff
theorem docB_take {E : List Op5} {k : Nat} {e : Op5} (h : docB (E.take k) = true) (he : E[k]? = some e) : docB (E.take (k + 1)) = decide (e.k = 1 ∨ e.k = 2) := by
  unfold docB at *
  rw [List.take_add_one, he, List.all_append, h]
  simp
theorem docB_no {E : List Op5} {k : Nat} {e : Op5} (he : E[k]? = some e) (hk : ¬ (e.k = 1 ∨ e.k = 2)) : docB E = false := by
  cases h : docB E with
  | false => rfl
  | true => exact absurd (docB_iff.1 h e (List.mem_of_getElem? he)) hk
theorem docB_sum {E : List Op5} (hw : ∀ o ∈ E, Wel o) : (docB E = true) = (sumB E = 0) := by
  apply propext
  rw [docB_iff]
  constructor
  · intro hd
    have : ∀ F : List Op5, DocL F → sumB F = 0 := fun F hF => by
      induction F with
      | nil => rfl
      | cons x r ih => rw [sumB_cons, base_1 (hF x (List.mem_cons_self ..)), ih fun o ho => hF o (List.mem_cons_of_mem _ ho)]; rfl
    exact this E hd
  · intro h0 o ho
    have h1 := (mem_sums hw ho).1
    have hx := hw o ho
    rcases hx.kinds with h | h | h | h
    · exact .inl h
    · exact .inr h
    · have := hx.count (.inl h); rw [base_3 (.inl h)] at h1; omega
    · have := hx.count (.inr h); rw [base_3 (.inr h)] at h1; omega
end Go.Proofs.YtplnojapnaaakaaGreatDoor

/- The document's insert, IsDoc, Base, Result, Refuse of layer 10. -/
namespace Go.Proofs.YtplnojapnaaakaaGreatDoor
open Go Go.RowKit Go.Lib
set_option linter.unusedVariables false
theorem ins10_any (o : Op5) (p : Option Addr) (l c : Nat) (w : World) : Calls Tryz.prog 138 #[opV o (.slice p l c)] w fun r w' => r = .returned (.bool (decide (o.k = 1 ∨ o.k = 2))) ∧ Below w.heap.size w w' := by
  obtain ⟨k, t, ⟨x, n, u⟩, cc, A⟩ := o
  simp only
  by_cases k1 : k = 1
  · subst k1
    rw [decide_eq_true (Or.inl rfl)]
    go_enter Tryz.func138, Tryz.ntmps138
    go_wp2
    go_ret
    exact ⟨rfl, by go_grown⟩
  · have e1 : (k == 1) = false := by simpa using k1
    by_cases k2 : k = 2
    · subst k2
      rw [decide_eq_true (Or.inr rfl)]
      go_enter Tryz.func138, Tryz.ntmps138
      go_wp2
      go_ret
      exact ⟨rfl, by go_grown⟩
    · have e2 : (k == 2) = false := by simpa using k2
      rw [decide_eq_false (by omega)]
      go_enter Tryz.func138, Tryz.ntmps138
      go_wp2
      go_ret
      exact ⟨rfl, by go_grown⟩
set_option maxHeartbeats 4000000 in
set_option maxRecDepth 100000 in
theorem isDoc10_any (v : Value) (E : List Op5) (w : World) (hv : ReO w v E) (hl : E.length ≤ 4194304) :
    Calls Tryz.prog 113 #[v] w fun r w' => r = .returned (.bool (docB E)) ∧ Below w.heap.size w w' := by
  obtain ⟨DO, ⟨p, cap, rfl, hcap, hnz, hat⟩, hre⟩ := hv
  have hDE := forall2_len hre
  obtain ⟨m, hm⟩ : ∃ m, DO.length = m := ⟨_, rfl⟩
  rw [hm] at hcap ⊢
  have hlm : m ≤ 4194304 := by rw [← hm, hDE]; exact hl
  have HM : Hid (DO.length = m ∧ E.length = m) := ⟨hm, by rw [← hDE, hm]⟩
  have HA : Hid (∀ (j : Nat) (d : OV), DO[j]? = some d → ∃ b off, p = some ⟨b, off, none⟩ ∧ OpAt w b (off + j * 7) d) := hat
  have HE : Hid (ReD w DO E) := hre
  clear hm hDE hl hat hre hnz
  go_enter Tryz.func113, Tryz.ntmps113
  go_wp2
  go_loopw [8] (fun i wr => ∃ (k : Nat), k ≤ m ∧ i = .int .i64 k ∧ Hid (docB (E.take k) = true) ∧ Below w.heap.size w wr) (fun i _ => m - (RowKit.intOf i).toNat)
  case atStart => exact ⟨0, Nat.zero_le _, rfl, by show docB (E.take 0) = true; rfl, Below.refl _ _⟩
  case round =>
    obtain ⟨k, hk, rfl, HD, hbw⟩ := hrel
    by_cases hlt : k < m
    · have hltI : (k : Int) < m := by omega
      obtain ⟨d, hd⟩ : ∃ d, DO[k]? = some d := ⟨_, List.getElem?_eq_getElem (by rw [HM.out.1]; exact hlt)⟩
      obtain ⟨e, he, hr⟩ := forall2_get HE.out k d hd
      obtain ⟨b, off, rfl, hin⟩ := HA.out k d hd
      obtain ⟨c0, c1, c2, c3, c4, c5, c6⟩ := hin.below hbw
      obtain ⟨h1, h2, h3, h4, -⟩ := hr
      have bA := hbw.alloc hbw.size (.cells (opC e (slV d.2.2.2.2)) 33)
      have HT : Hid (docB (E.take (k + 1)) = decide (e.k = 1 ∨ e.k = 2) ∧ (¬ (e.k = 1 ∨ e.k = 2) → docB E = false)) := ⟨docB_take HD.out he, docB_no he⟩
      obtain ⟨dk, dt, ⟨dx, dn, du⟩, dc, sp, sl, sc⟩ := d
      simp only [slV] at c0 c1 c2 c3 c4 c5 c6 h1 h2 h3 h4 bA
      have cI := ins10_any e sp sl sc (wr.alloc (.cells (opC e (.slice sp sl sc)) 33))
      obtain ⟨ek, et, ⟨ex, en, eu⟩, ec, eA⟩ := e
      simp only [Prod.mk.injEq] at h1 h2 h3 h4
      obtain ⟨h3, h5, h6⟩ := h3
      subst h1; subst h2; subst h3; subst h4; subst h5; subst h6
      simp only [opC] at cI bA
      have hsz := hbw.size
      by_cases hq : dk = 1 ∨ dk = 2
      · rw [decide_eq_true hq] at cI
        have HT2 : Hid (docB (E.take (k + 1)) = true) := by have := HT.out.1; rwa [decide_eq_true hq] at this
        clear hin hd he HD HT hbw hq
        go_wp2_with fail
        refine cI.mono ?_; rintro r w5 ⟨rfl, b5⟩
        have b9 := bA.trans (b5.mono bA.size)
        clear cI b5 bA
        go_wp2
        go_roundw
        case rel => exact ⟨k + 1, by omega, by go_num, HT2.out, b9⟩
        case measure => simp [RowKit.intOf]; omega
      · rw [decide_eq_false hq] at cI
        have HF : Hid (docB E = false) := HT.out.2 hq
        clear hin hd he HD HT hbw hq
        go_wp2_with fail
        refine cI.mono ?_; rintro r w5 ⟨rfl, b5⟩
        have b9 := bA.trans (b5.mono bA.size)
        clear cI b5 bA
        go_wp2
        go_ret
        exact ⟨by rw [HF.out]; simp, b9⟩
    · have hltI : ¬ (k : Int) < m := by omega
      have hall : E.take k = E := List.take_of_length_le (by rw [HM.out.2]; omega)
      rw [hall] at HD
      go_wp2
      go_ret
      exact ⟨by rw [HD.out]; simp, hbw⟩
theorem count_base {o : Op5} (h : Wel o) : o.c = baseO o := by
  rcases h with ⟨i, hk⟩ | ⟨hk, _⟩ | ⟨hk, _⟩
  · rw [base_1 hk, i.count]
  · rw [base_3 (.inl hk)]
  · rw [base_3 (.inr hk)]
theorem sumB_take_range {E : List Op5} (hw : ∀ o ∈ E, Wel o) (k : Nat) : 0 ≤ sumB (E.take k) ∧ sumB (E.take k) ≤ sumB E := by
  have h1 := sums_nn (E := E.take k) fun o ho => hw o (List.mem_of_mem_take ho)
  have h2 := sums_nn (E := E.drop k) fun o ho => hw o (List.mem_of_mem_drop ho)
  have e : sumB E = sumB (E.take k) + sumB (E.drop k) := by rw [← sumB_append, List.take_append_drop]
  omega
theorem sumR_take_range {E : List Op5} (hw : ∀ o ∈ E, Wel o) (k : Nat) : 0 ≤ sumR (E.take k) ∧ sumR (E.take k) ≤ sumR E := by
  have h1 := sums_nn (E := E.take k) fun o ho => hw o (List.mem_of_mem_take ho)
  have h2 := sums_nn (E := E.drop k) fun o ho => hw o (List.mem_of_mem_drop ho)
  have e : sumR E = sumR (E.take k) + sumR (E.drop k) := by rw [← sumR_append, List.take_append_drop]
  omega
theorem sumB_step {E : List Op5} {k : Nat} {e : Op5} (he : E[k]? = some e) : sumB (E.take (k + 1)) = sumB (E.take k) + baseO e := by
  rw [List.take_add_one, he, Option.toList_some, sumB_append, sumB_one]
theorem sumR_step {E : List Op5} {k : Nat} {e : Op5} (he : E[k]? = some e) : sumR (E.take (k + 1)) = sumR (E.take k) + resO e := by
  rw [List.take_add_one, he, Option.toList_some, sumR_append, sumR_one]
set_option maxHeartbeats 4000000 in
set_option maxRecDepth 100000 in
theorem base10_any (v : Value) (E : List Op5) (w : World) (hv : ReO w v E) (hw : ∀ o ∈ E, Wel o) (hb : sumB E ≤ 4398046511104) (hl : E.length ≤ 4194304) :
    Calls Tryz.prog 115 #[v] w fun r w' => r = .returned (.int .i64 (sumB E)) ∧ Below w.heap.size w w' := by
  obtain ⟨DO, ⟨p, cap, rfl, hcap, hnz, hat⟩, hre⟩ := hv
  have hDE := forall2_len hre
  obtain ⟨m, hm⟩ : ∃ m, DO.length = m := ⟨_, rfl⟩
  rw [hm] at hcap ⊢
  have hlm : m ≤ 4194304 := by rw [← hm, hDE]; exact hl
  have HM : Hid (DO.length = m ∧ E.length = m) := ⟨hm, by rw [← hDE, hm]⟩
  have HA : Hid (∀ (j : Nat) (d : OV), DO[j]? = some d → ∃ b off, p = some ⟨b, off, none⟩ ∧ OpAt w b (off + j * 7) d) := hat
  have HE : Hid (ReD w DO E ∧ (∀ o ∈ E, Wel o) ∧ sumB E ≤ 4398046511104) := ⟨hre, hw, hb⟩
  clear hm hDE hl hat hre hnz hw hb
  go_enter Tryz.func115, Tryz.ntmps115
  go_wp2
  go_loopw [3, 8] (fun s i wr => ∃ (k : Nat) (z : Int), k ≤ m ∧ i = .int .i64 k ∧ s = .int .i64 z ∧ Hid (sumB (E.take k) = z) ∧ Below w.heap.size w wr) (fun _ i _ => m - (RowKit.intOf i).toNat)
  case atStart => exact ⟨0, 0, Nat.zero_le _, rfl, rfl, by show sumB (E.take 0) = 0; simp [sumB], Below.refl _ _⟩
  case round =>
    obtain ⟨k, z, hk, rfl, rfl, HZ, hbw⟩ := hrel
    by_cases hlt : k < m
    · have hltI : (k : Int) < m := by omega
      obtain ⟨d, hd⟩ : ∃ d, DO[k]? = some d := ⟨_, List.getElem?_eq_getElem (by rw [HM.out.1]; exact hlt)⟩
      obtain ⟨e, he, hr⟩ := forall2_get HE.out.1 k d hd
      obtain ⟨b, off, rfl, hin⟩ := HA.out k d hd
      obtain ⟨c0, c1, c2, c3, c4, c5, c6⟩ := hin.below hbw
      obtain ⟨h1, h2, h3, h4, -⟩ := hr
      have hz : z + d.2.2.2.1 = sumB (E.take (k + 1)) := by rw [sumB_step he, ← count_base (HE.out.2.1 e (List.mem_of_getElem? he)), HZ.out, h4]
      have r1 := sumB_take_range HE.out.2.1 k
      have r2 := sumB_take_range HE.out.2.1 (k + 1)
      have hbb := HE.out.2.2
      rw [← hz] at r2
      rw [HZ.out] at r1
      obtain ⟨dk, dt, ⟨dx, dn, du⟩, dc, sp, sl, sc⟩ := d
      simp only [slV] at c0 c1 c2 c3 c4 c5 c6 hz r2
      have hwr : IntKind.i64.wrap (z + dc) = z + dc := by rw [IntKind.wrap_i64]; omega
      have HZ2 : Hid (sumB (E.take (k + 1)) = z + dc) := hz.symm
      have b9 := hbw.alloc hbw.size (.cells #[.int .i64 dk, .string dt, .int .i64 dx, .int .i64 dn, .string du, .int .i64 dc, .slice sp sl sc] 33)
      clear hin hd he HZ hbw hz r1 r2 hbb h1 h2 h3 h4
      go_wp2
      go_roundw
      case rel => exact ⟨k + 1, z + dc, by omega, by go_num, by first | rfl | rw [hwr], HZ2.out, b9⟩
      case measure => simp [RowKit.intOf]; omega
    · have hltI : ¬ (k : Int) < m := by omega
      have hall : E.take k = E := List.take_of_length_le (by rw [HM.out.2]; omega)
      rw [hall] at HZ
      go_wp2
      go_ret
      exact ⟨by rw [HZ.out]; rfl, hbw⟩
theorem wel_ins10 {o : Op5} (h : Wel o) (hk : o.k = 1 ∨ o.k = 2) : Ins o := (h.resolve_right (by rintro (h | h) <;> omega)).1
theorem res_len {o : Op5} (h : Wel o) (hk : o.k = 1 ∨ o.k = 2) : resO o = (lenO o : Int) := by
  unfold resO len5
  rw [if_neg (by omega), if_pos hk]
set_option maxHeartbeats 4000000 in
set_option maxRecDepth 100000 in
theorem result10_any (v : Value) (E : List Op5) (w : World) (hv : ReO w v E) (hw : ∀ o ∈ E, Wel o) (ht : ∀ o ∈ E, o.t.size ≤ 8388608) (hb : sumR E ≤ 4398046511104) (hl : E.length ≤ 4194304) :
    Calls Tryz.prog 114 #[v] w fun r w' => r = .returned (.int .i64 (sumR E)) ∧ Below w.heap.size w w' := by
  obtain ⟨DO, ⟨p, cap, rfl, hcap, hnz, hat⟩, hre⟩ := hv
  have hDE := forall2_len hre
  obtain ⟨m, hm⟩ : ∃ m, DO.length = m := ⟨_, rfl⟩
  rw [hm] at hcap ⊢
  have hlm : m ≤ 4194304 := by rw [← hm, hDE]; exact hl
  have HM : Hid (DO.length = m ∧ E.length = m) := ⟨hm, by rw [← hDE, hm]⟩
  have HA : Hid (∀ (j : Nat) (d : OV), DO[j]? = some d → ∃ b off, p = some ⟨b, off, none⟩ ∧ OpAt w b (off + j * 7) d) := hat
  have HE : Hid (ReD w DO E ∧ (∀ o ∈ E, Wel o) ∧ (∀ o ∈ E, o.t.size ≤ 8388608) ∧ sumR E ≤ 4398046511104) := ⟨hre, hw, ht, hb⟩
  clear hm hDE hl hat hre hnz hw hb ht
  go_enter Tryz.func114, Tryz.ntmps114
  go_wp2
  go_loopw [3, 9] (fun s i wr => ∃ (k : Nat) (z : Int), k ≤ m ∧ i = .int .i64 k ∧ s = .int .i64 z ∧ Hid (sumR (E.take k) = z) ∧ Below w.heap.size w wr) (fun _ i _ => m - (RowKit.intOf i).toNat)
  case atStart => exact ⟨0, 0, Nat.zero_le _, rfl, rfl, by show sumR (E.take 0) = 0; simp [sumR], Below.refl _ _⟩
  case round =>
    obtain ⟨k, z, hk, rfl, rfl, HZ, hbw⟩ := hrel
    by_cases hlt : k < m
    · have hltI : (k : Int) < m := by omega
      obtain ⟨d, hd⟩ : ∃ d, DO[k]? = some d := ⟨_, List.getElem?_eq_getElem (by rw [HM.out.1]; exact hlt)⟩
      obtain ⟨e, he, hr⟩ := forall2_get HE.out.1 k d hd
      obtain ⟨b, off, rfl, hin⟩ := HA.out k d hd
      obtain ⟨c0, c1, c2, c3, c4, c5, c6⟩ := hin.below hbw
      obtain ⟨h1, h2, h3, h4, -⟩ := hr
      have hem := List.mem_of_getElem? he
      have hwe := HE.out.2.1 e hem
      have hte := HE.out.2.2.1 e hem
      have hz : z + resO e = sumR (E.take (k + 1)) := by rw [sumR_step he, HZ.out]
      have r1 := sumR_take_range HE.out.2.1 k
      have r2 := sumR_take_range HE.out.2.1 (k + 1)
      have hbb := HE.out.2.2.2
      rw [← hz] at r2
      rw [HZ.out] at r1
      have HZ2 : Hid (sumR (E.take (k + 1)) = z + resO e) := hz.symm
      have bA := hbw.alloc hbw.size (.cells (opC e (slV d.2.2.2.2)) 33)
      obtain ⟨dk, dt, ⟨dx, dn, du⟩, dc, sp, sl, sc⟩ := d
      simp only [slV] at c0 c1 c2 c3 c4 c5 c6 h1 h2 h3 h4 bA
      have cI := ins10_any e sp sl sc (wr.alloc (.cells (opC e (.slice sp sl sc)) 33))
      have hsz := hbw.size
      have hlt0 : wr.heap.size < (wr.alloc (.cells (opC e (.slice sp sl sc)) 33)).heap.size := by simp
      have hn0 := heap_alloc_new wr (.cells (opC e (.slice sp sl sc)) 33)
      rcases hwe.kinds with hk1 | hk1 | hk1 | hk1
      · have hI := wel_ins10 hwe (.inl hk1)
        have hre := res_len hwe (.inl hk1)
        obtain ⟨L, hL⟩ : ∃ L : Int, resO e = L := ⟨_, rfl⟩
        have cL : ∀ W, Calls Tryz.prog 100 #[opV e (.slice sp sl sc)] W fun r w' => r = .returned (.int .i64 L) ∧ Below W.heap.size W w' := fun W => by have := refLen4_any e (.slice sp sl sc) W hI hte; rw [← hre, hL] at this; exact this
        rw [hL] at HZ2 r2
        have hwr : IntKind.i64.wrap (z + L) = z + L := by rw [IntKind.wrap_i64]; omega
        rw [decide_eq_true (Or.inl hk1)] at cI
        clear hin hd he HZ hbw hz r1 r2 hbb hem hte hI hre hL hwe
        obtain ⟨ek, et, ⟨ex, en, eu⟩, ec, eA⟩ := e
        simp only [Prod.mk.injEq] at h1 h2 h3 h4 hk1
        obtain ⟨h3, h5, h6⟩ := h3
        subst hk1
        subst h1; subst h2; subst h3; subst h4; subst h5; subst h6
        simp only [opC] at cI bA cL hlt0 hn0
        go_wp2_with fail
        refine cI.mono ?_; rintro r w5 ⟨rfl, b5⟩
        have b9 := bA.trans (b5.mono bA.size)
        have m0 := heap_below b5 hn0
        have q0 : w5.cell? ⟨wr.heap.size, 0, none⟩ = some (.int .i64 1) := by rw [cell_of_heap m0]; rfl
        have q1 : w5.cell? ⟨wr.heap.size, 1, none⟩ = some (.string dt) := by rw [cell_of_heap m0]; rfl
        have q2 : w5.cell? ⟨wr.heap.size, 2, none⟩ = some (.int .i64 dx) := by rw [cell_of_heap m0]; rfl
        have q3 : w5.cell? ⟨wr.heap.size, 3, none⟩ = some (.int .i64 dn) := by rw [cell_of_heap m0]; rfl
        have q4 : w5.cell? ⟨wr.heap.size, 4, none⟩ = some (.string du) := by rw [cell_of_heap m0]; rfl
        have q5 : w5.cell? ⟨wr.heap.size, 5, none⟩ = some (.int .i64 dc) := by rw [cell_of_heap m0]; rfl
        have q6 : w5.cell? ⟨wr.heap.size, 6, none⟩ = some (.slice sp sl sc) := by rw [cell_of_heap m0]; rfl
        have cL5 := cL w5
        clear cI b5 bA m0 hn0 cL
        go_wp2_with fail
        refine cL5.mono ?_; rintro r w6 ⟨rfl, b6⟩
        have b10 := b9.trans (b6.mono b9.size)
        clear cL5 b6 b9 q0 q1 q2 q3 q4 q5 q6
        go_wp2
        go_roundw
        case rel => exact ⟨k + 1, z + L, by omega, by go_num, by first | rfl | rw [hwr], HZ2.out, b10⟩
        case measure => simp [RowKit.intOf]; omega
      · have hI := wel_ins10 hwe (.inr hk1)
        have hre := res_len hwe (.inr hk1)
        obtain ⟨L, hL⟩ : ∃ L : Int, resO e = L := ⟨_, rfl⟩
        have cL : ∀ W, Calls Tryz.prog 100 #[opV e (.slice sp sl sc)] W fun r w' => r = .returned (.int .i64 L) ∧ Below W.heap.size W w' := fun W => by have := refLen4_any e (.slice sp sl sc) W hI hte; rw [← hre, hL] at this; exact this
        rw [hL] at HZ2 r2
        have hwr : IntKind.i64.wrap (z + L) = z + L := by rw [IntKind.wrap_i64]; omega
        rw [decide_eq_true (Or.inr hk1)] at cI
        clear hin hd he HZ hbw hz r1 r2 hbb hem hte hI hre hL hwe
        obtain ⟨ek, et, ⟨ex, en, eu⟩, ec, eA⟩ := e
        simp only [Prod.mk.injEq] at h1 h2 h3 h4 hk1
        obtain ⟨h3, h5, h6⟩ := h3
        subst hk1
        subst h1; subst h2; subst h3; subst h4; subst h5; subst h6
        simp only [opC] at cI bA cL hlt0 hn0
        go_wp2_with fail
        refine cI.mono ?_; rintro r w5 ⟨rfl, b5⟩
        have b9 := bA.trans (b5.mono bA.size)
        have m0 := heap_below b5 hn0
        have q0 : w5.cell? ⟨wr.heap.size, 0, none⟩ = some (.int .i64 2) := by rw [cell_of_heap m0]; rfl
        have q1 : w5.cell? ⟨wr.heap.size, 1, none⟩ = some (.string dt) := by rw [cell_of_heap m0]; rfl
        have q2 : w5.cell? ⟨wr.heap.size, 2, none⟩ = some (.int .i64 dx) := by rw [cell_of_heap m0]; rfl
        have q3 : w5.cell? ⟨wr.heap.size, 3, none⟩ = some (.int .i64 dn) := by rw [cell_of_heap m0]; rfl
        have q4 : w5.cell? ⟨wr.heap.size, 4, none⟩ = some (.string du) := by rw [cell_of_heap m0]; rfl
        have q5 : w5.cell? ⟨wr.heap.size, 5, none⟩ = some (.int .i64 dc) := by rw [cell_of_heap m0]; rfl
        have q6 : w5.cell? ⟨wr.heap.size, 6, none⟩ = some (.slice sp sl sc) := by rw [cell_of_heap m0]; rfl
        have cL5 := cL w5
        clear cI b5 bA m0 hn0 cL
        go_wp2_with fail
        refine cL5.mono ?_; rintro r w6 ⟨rfl, b6⟩
        have b10 := b9.trans (b6.mono b9.size)
        clear cL5 b6 b9 q0 q1 q2 q3 q4 q5 q6
        go_wp2
        go_roundw
        case rel => exact ⟨k + 1, z + L, by omega, by go_num, by first | rfl | rw [hwr], HZ2.out, b10⟩
        case measure => simp [RowKit.intOf]; omega
      · rw [res_3 hk1, ← h4] at HZ2 r2
        have hwr : IntKind.i64.wrap (z + dc) = z + dc := by rw [IntKind.wrap_i64]; omega
        rw [decide_eq_false (by omega)] at cI
        clear hin hd he HZ hbw hz r1 r2 hbb hem hte hwe
        obtain ⟨ek, et, ⟨ex, en, eu⟩, ec, eA⟩ := e
        simp only [Prod.mk.injEq] at h1 h2 h3 h4 hk1
        obtain ⟨h3, h5, h6⟩ := h3
        subst hk1
        subst h1; subst h2; subst h3; subst h4; subst h5; subst h6
        simp only [opC] at cI bA hlt0 hn0
        go_wp2_with fail
        refine cI.mono ?_; rintro r w5 ⟨rfl, b5⟩
        have b9 := bA.trans (b5.mono bA.size)
        have m0 := heap_below b5 hn0
        have q0 : w5.cell? ⟨wr.heap.size, 0, none⟩ = some (.int .i64 3) := by rw [cell_of_heap m0]; rfl
        have q5 : w5.cell? ⟨wr.heap.size, 5, none⟩ = some (.int .i64 dc) := by rw [cell_of_heap m0]; rfl
        clear cI b5 bA m0 hn0
        go_wp2
        go_roundw
        case rel => exact ⟨k + 1, z + dc, by omega, by go_num, by first | rfl | rw [hwr], HZ2.out, b9⟩
        case measure => simp [RowKit.intOf]; omega
      · rw [res_4 hk1] at HZ2
        rw [decide_eq_false (by omega)] at cI
        clear hin hd he HZ hbw hz r1 r2 hbb hem hte hwe
        obtain ⟨ek, et, ⟨ex, en, eu⟩, ec, eA⟩ := e
        simp only [Prod.mk.injEq] at h1 h2 h3 h4 hk1
        obtain ⟨h3, h5, h6⟩ := h3
        subst hk1
        subst h1; subst h2; subst h3; subst h4; subst h5; subst h6
        simp only [opC] at cI bA hlt0 hn0
        go_wp2_with fail
        refine cI.mono ?_; rintro r w5 ⟨rfl, b5⟩
        have b9 := bA.trans (b5.mono bA.size)
        have m0 := heap_below b5 hn0
        have q0 : w5.cell? ⟨wr.heap.size, 0, none⟩ = some (.int .i64 4) := by rw [cell_of_heap m0]; rfl
        clear cI b5 bA m0 hn0
        go_wp2
        go_roundw
        case rel => exact ⟨k + 1, z, by omega, by go_num, rfl, by show _ = _; rw [HZ2.out]; omega, b9⟩
        case measure => simp [RowKit.intOf]; omega
    · have hltI : ¬ (k : Int) < m := by omega
      have hall : E.take k = E := List.take_of_length_le (by rw [HM.out.2]; omega)
      rw [hall] at HZ
      go_wp2
      go_ret
      exact ⟨by rw [HZ.out]; rfl, hbw⟩
end Go.Proofs.YtplnojapnaaakaaGreatDoor

/- Stage 10, purely: what the document's Apply may be asked of. -/
namespace Go.Proofs.YtplnojapnaaakaaGreatDoor
open Go Go.RowKit Go.Lib
set_option linter.unusedVariables false
theorem cellsO_le10 {o : Op5} (h : opE o = 0) : (cellsOf o).length ≤ o.t.size + 1 := by
  unfold cellsOf
  split
  · rename_i hk
    rcases op_good h with ⟨hi, _⟩ | ⟨_, _, hk3⟩ | ⟨_, _, hk4⟩
    · rw [mkC_len]
      obtain ⟨h1, h2, _⟩ := valid_text o.t hi.utf
      have h3 := encs_len0 h1
      rw [← h2, size_toList] at h3
      omega
    · omega
    · omega
  · show 1 ≤ o.t.size + 1
    omega
theorem cellsL_le10 : ∀ {C : List Op5}, (∀ o ∈ C, opE o = 0) → (cellsL C).length ≤ txtS C + C.length
  | [], _ => by show 0 ≤ _; omega
  | o :: r, h => by
    have h1 := cellsO_le10 (h o (List.mem_cons_self ..))
    have h2 := cellsL_le10 (C := r) fun x hx => h x (List.mem_cons_of_mem _ hx)
    have e : cellsL (o :: r) = cellsOf o ++ cellsL r := rfl
    rw [e, List.length_append, txtS_cons, List.length_cons]
    omega
/-- How many cells units lay: no more than they reach and insert. -/
theorem res_le10 : ∀ {F : List Op5}, (∀ o ∈ F, opE o = 0) → resU (units F) ≤ baseU (units F) + (txtS F + F.length)
  | [], _ => by show 0 ≤ _; omega
  | o :: r, h => by
    have ho := h o (List.mem_cons_self ..)
    have ih := res_le10 (F := r) fun x hx => h x (List.mem_cons_of_mem _ hx)
    have e : units (o :: r) = unitsO o ++ units r := rfl
    rw [e, resU_append, baseU_append, txtS_cons, List.length_cons]
    rcases kinds_of ho with hk | hk | hk | hk
    · have := cellsO_le10 ho
      rw [unitsO_1 (.inl hk), resU_ins]; omega
    · have := cellsO_le10 ho
      rw [unitsO_1 (.inr hk), resU_ins]; omega
    · rw [unitsO_3 hk, resU_keeps, baseU_keeps]; omega
    · rw [unitsO_4 hk, resU_dels]; omega
/-- Lists of operations that the document's Apply may be asked of. -/
structure ApR (E F : List Op5) : Prop where
  gE : ∀ o ∈ E, opE o = 0
  gF : ∀ o ∈ F, opE o = 0
  fE : FitL E
  fF : FitL F
  lE : E.length ≤ 1048576
  lF : F.length ≤ 1048576
  sE : Fits8 E
  sF : Fits8 F
  t : txtS E + txtS F ≤ 8388608
  aE : ∀ o ∈ E, o.A.length ≤ 524288
  aF : ∀ o ∈ F, o.A.length ≤ 524288
theorem ApR.wE {E F : List Op5} (h : ApR E F) : ∀ o ∈ E, Wel o := fun o ho => wel_of (h.gE o ho)
theorem ApR.wF {E F : List Op5} (h : ApR E F) : ∀ o ∈ F, Wel o := fun o ho => wel_of (h.gF o ho)
theorem cells_setC {E : List Op5} (h : ∀ o ∈ E, Wel o) (hd : DocL E) : SetC (cellsL E) := fun c hc => (good_cells h hd c hc).2
theorem cells_attr10 {E : List Op5} {K : Nat} (h : ∀ o ∈ E, o.A.length ≤ K) : ∀ c ∈ cellsL E, c.2.2.2.length ≤ K := fun c hc => by
  obtain ⟨o, ho, hc⟩ := List.mem_flatMap.1 hc
  rw [cellsOf_A o c hc]
  exact h o ho
theorem ApR.don {E F : List Op5} (h : ApR E F) (h0 : chkE10 E F = 0) : DocL E ∧ DonR (cellsL E) F 524288 524288 ∧ ∃ xs, edit (units F) (cellsL E) = some xs := by
  obtain ⟨_, hd, xs, hx, h1, h2, h3⟩ := chk10_edit h.gE h.gF h0
  have hb := sumB_units h.wF
  have hl := doc_len10 h.wE hd
  have hc := cellsL_le10 h.gE
  have hr := res_le10 h.gF
  have ht := h.t
  have hle := h.lE
  have hlf := h.lF
  exact ⟨hd, ⟨h.wF, h.fF, by omega, cells_setC h.wE hd, cells_attr10 h.aE, h.aF, by omega, by omega, by omega, by omega⟩, xs, hx⟩
/-- A cell patched is good. -/
theorem patC_good {c : C5} {B : List A2} (h : GoodC c) (hB : Pat B) : GoodC (patC c B) := by
  obtain ⟨w1, u1, k1⟩ := opOf_good h
  obtain ⟨w2, u2⟩ := patO_wel w1 k1 hB
  have hc : cellsOf (opOf c) = [c] := ins_map_inj (by rw [← unitsO_1 k1, u1]; rfl)
  rw [hc] at u2
  have hd : DocL [patO (opOf c) B] := fun o ho => by rw [List.mem_singleton.1 ho]; exact k1
  have hw : ∀ o ∈ [patO (opOf c) B], Wel o := fun o ho => by rw [List.mem_singleton.1 ho]; exact w2
  refine good_cells hw hd _ ?_
  have e : cellsL [patO (opOf c) B] = [patC c B] := ins_map_inj (by
    rw [← units_doc hd]
    show unitsO _ ++ [] = _
    rw [u2]; rfl)
  rw [e]; exact List.mem_singleton.2 rfl
/-- Units whose inserts are good and whose patches are patches. -/
def GoodV (U : List U6) (K : Nat) : Prop := ∀ u ∈ U, match u with | .ins c => GoodC c ∧ c.2.2.2.length ≤ K | .keep A => Pat A ∧ A.length ≤ K | .del => True
theorem mem_units10 {u : U6} : ∀ {F : List Op5}, u ∈ units F → ∃ o ∈ F, u ∈ unitsO o
  | [], h => by cases h
  | o :: r, h => by
    rcases List.mem_append.1 (show u ∈ unitsO o ++ units r from h) with h | h
    · exact ⟨o, List.mem_cons_self .., h⟩
    · obtain ⟨x, hx, h⟩ := mem_units10 h
      exact ⟨x, List.mem_cons_of_mem _ hx, h⟩
theorem good_v {F : List Op5} {K : Nat} (h : ∀ o ∈ F, Wel o) (hK : ∀ o ∈ F, o.A.length ≤ K) : GoodV (units F) K := fun u hu => by
  obtain ⟨o, ho, hu⟩ := mem_units10 hu
  have hw := h o ho
  have hA := hK o ho
  rcases hw.kinds with hk | hk | hk | hk
  · rw [unitsO_1 (.inl hk)] at hu
    obtain ⟨c, hc, rfl⟩ := List.mem_map.1 hu
    refine ⟨good_cells (E := [o]) (fun x hx => by rw [List.mem_singleton.1 hx]; exact hw) (fun x hx => by rw [List.mem_singleton.1 hx]; exact .inl hk) c ?_, by rw [cellsOf_A o c hc]; exact hA⟩
    show c ∈ cellsOf o ++ []
    rw [List.append_nil]; exact hc
  · rw [unitsO_1 (.inr hk)] at hu
    obtain ⟨c, hc, rfl⟩ := List.mem_map.1 hu
    refine ⟨good_cells (E := [o]) (fun x hx => by rw [List.mem_singleton.1 hx]; exact hw) (fun x hx => by rw [List.mem_singleton.1 hx]; exact .inr hk) c ?_, by rw [cellsOf_A o c hc]; exact hA⟩
    show c ∈ cellsOf o ++ []
    rw [List.append_nil]; exact hc
  · rw [unitsO_3 hk] at hu
    rw [List.eq_of_mem_replicate hu]
    refine ⟨?_, hA⟩
    rcases hw with ⟨_, h⟩ | ⟨_, _, _, _, h⟩ | ⟨h, _⟩
    · omega
    · exact pat_of h
    · omega
  · rw [unitsO_4 hk] at hu
    rw [List.eq_of_mem_replicate hu]
    trivial
theorem run_good {K : Nat} : ∀ (U : List U6) (cs o r : List C5), GoodV U K → (∀ c ∈ cs, GoodC c ∧ c.2.2.2.length ≤ K) → runU U cs = some (o, r) → (∀ c ∈ o, GoodC c ∧ c.2.2.2.length ≤ K + K) ∧ ∀ c ∈ r, GoodC c ∧ c.2.2.2.length ≤ K + K
  | [], cs, o, r, _, hc, h => by
    obtain ⟨rfl, rfl⟩ : [] = o ∧ cs = r := by simpa [runU] using h
    exact ⟨fun c hc => (by cases hc), fun c h => ⟨(hc c h).1, by have := (hc c h).2; omega⟩⟩
  | .ins c :: u, cs, o, r, hU, hc, h => by
    have hu : GoodV u K := fun x hx => hU x (List.mem_cons_of_mem _ hx)
    have h1 := hU _ (List.mem_cons_self ..)
    simp only [runU] at h
    obtain ⟨⟨o', r'⟩, hr, he⟩ := Option.map_eq_some_iff.1 h
    obtain ⟨rfl, rfl⟩ : c :: o' = o ∧ r' = r := by simpa using he
    obtain ⟨i1, i2⟩ := run_good u cs o' r' hu hc hr
    refine ⟨fun x hx => ?_, i2⟩
    rcases List.mem_cons.1 hx with rfl | hx
    · exact ⟨h1.1, by have := h1.2; omega⟩
    · exact i1 x hx
  | .keep A :: u, [], o, r, _, _, h => by cases h
  | .keep A :: u, c :: cs, o, r, hU, hc, h => by
    have hu : GoodV u K := fun x hx => hU x (List.mem_cons_of_mem _ hx)
    have h1 := hU _ (List.mem_cons_self ..)
    have h2 := hc c (List.mem_cons_self ..)
    simp only [runU] at h
    obtain ⟨⟨o', r'⟩, hr, he⟩ := Option.map_eq_some_iff.1 h
    obtain ⟨rfl, rfl⟩ : patC c A :: o' = o ∧ r' = r := by simpa using he
    obtain ⟨i1, i2⟩ := run_good u cs o' r' hu (fun x hx => hc x (List.mem_cons_of_mem _ hx)) hr
    refine ⟨fun x hx => ?_, i2⟩
    rcases List.mem_cons.1 hx with rfl | hx
    · refine ⟨patC_good h2.1 h1.1, ?_⟩
      have := jn_len (chC false) c.2.2.2 A
      show (jn (chC false) c.2.2.2 A).length ≤ _
      have := h1.2
      have := h2.2
      omega
    · exact i1 x hx
  | .del :: u, [], o, r, _, _, h => by cases h
  | .del :: u, c :: cs, o, r, hU, hc, h => by
    simp only [runU] at h
    exact run_good u cs o r (fun x hx => hU x (List.mem_cons_of_mem _ hx)) (fun x hx => hc x (List.mem_cons_of_mem _ hx)) h
theorem txtS_ops (xs : List C5) : txtS (xs.map opOf) = wS (xs.map U6.ins) := by
  induction xs with
  | nil => rfl
  | cons c r ih => rw [List.map_cons, List.map_cons, txtS_cons, wS_cons, ih]; rfl
/-- The cells behind may be made a document. -/
theorem ApR.cel {E F : List Op5} (h : ApR E F) (h0 : chkE10 E F = 0) {xs : List C5} (hx : edit (units F) (cellsL E) = some xs) : CelR xs ∧ xs.length ≤ 33554432 := by
  obtain ⟨hd, hD, _⟩ := h.don h0
  have hcs : ∀ c ∈ cellsL E, GoodC c ∧ c.2.2.2.length ≤ 524288 := fun c hc => ⟨good_cells h.wE hd c hc, cells_attr10 h.aE c hc⟩
  have hv := good_v h.wF h.aF
  have ht : txtS (xs.map opOf) ≤ 8388608 := by
    rw [txtS_ops, ← comp_doc h.wE h.wF hd hx]
    have := wS_comp (units E) (units F)
    rw [wS_units h.wE, wS_units h.wF] at this
    have := h.t
    omega
  have hl := done_edit hD.base hx
  have hlen : xs.length ≤ 16777216 := by
    obtain ⟨_, _, xs', hx', h1, _, h3⟩ := chk10_edit h.gE h.gF h0
    obtain rfl : xs' = xs := Option.some.inj (hx'.symm.trans hx)
    have hb := sumB_units h.wF
    have hr := sumR_units h.wF
    have hl := doc_len10 h.wE hd
    have h4 := res_le10 h.gF
    have h5 := cellsL_le10 h.gE
    have h6 := h.t
    have h7 := h.lE
    have h8 := h.lF
    omega
  unfold edit at hx
  obtain ⟨⟨o, r⟩, hr, he⟩ := Option.map_eq_some_iff.1 hx
  obtain ⟨i1, i2⟩ := run_good (units F) (cellsL E) o r hv hcs hr
  have hall : ∀ c ∈ xs, GoodC c ∧ c.2.2.2.length ≤ 524288 + 524288 := fun c hc => by
    rw [← he] at hc
    rcases List.mem_append.1 hc with hc | hc
    · exact i1 c hc
    · exact i2 c hc
  exact ⟨⟨fun c hc => good_iff.2 (hall c hc).1, fun c hc => by have := (hall c hc).2; omega, hlen, ht⟩, by omega⟩
end Go.Proofs.YtplnojapnaaakaaGreatDoor

/- What vellumref10.Done answers: the walk. -/
namespace Go.Proofs.YtplnojapnaaakaaGreatDoor
open Go Go.RowKit Go.Lib
set_option linter.unusedVariables false
theorem set_nn {cs : List C5} (h : SetC cs) {c : C5} (hc : c ∈ cs) : NoNull c.2.2.2 := (set_iff.1 (h c hc)).2.2
theorem don_op (cs : List C5) {F : List Op5} {k : Nat} {e : Op5} (he : F[k]? = some e) : don cs (units (F.take (k + 1))) 0 = don cs (units (F.take k)) 0 ++ don cs (unitsO e) (baseU (units (F.take k))) := by
  rw [units_take he, don_append, Nat.zero_add]
set_option maxHeartbeats 16000000 in
set_option maxRecDepth 100000 in
theorem done10_any {KA KP : Nat} (va vb : Value) (B0 : Nat) (D0 : List CV) (cs : List C5) (F : List Op5) (w : World) (hB0 : B0 ≤ w.heap.size) (hrow : RowC w va D0) (hare : AreO w B0 D0 cs) (hv : ReO w vb F) (h : DonR cs F KA KP) :
    Calls Tryz.prog 81 #[va, vb] w fun r w' => ∃ v1 v2, r = .returned (.tuple #[v1, v2]) ∧ ∃ D, DoS w B0 v1 v2 D (doneL cs (units F)) w' := by
  obtain ⟨DO, ⟨pf, capf, rfl, hcapf, hnzf, hatf⟩, hre⟩ := hv
  obtain ⟨pc, capc, rfl, hcapc, hnzc, hcc⟩ := hrow
  have hDF := forall2_len hre
  have hDC := forall2_len hare
  obtain ⟨m, hm⟩ : ∃ m, DO.length = m := ⟨_, rfl⟩
  obtain ⟨N, hN⟩ : ∃ N, D0.length = N := ⟨_, rfl⟩
  rw [hm] at hcapf ⊢
  rw [hN] at hcapc ⊢
  have hlm : m ≤ 4194304 := by rw [← hm, hDF]; exact h.lf
  have hlN : N ≤ 16777216 := by rw [← hN, hDC]; exact h.lc
  have HM : Hid (DO.length = m ∧ F.length = m ∧ D0.length = N ∧ cs.length = N) := ⟨hm, by omega, hN, by omega⟩
  have HA : Hid (∀ (j : Nat) (d : OV), DO[j]? = some d → ∃ b off, pf = some ⟨b, off, none⟩ ∧ OpAt w b (off + j * 7) d) := hatf
  have HC : Hid (D0 ≠ [] → ∃ b off, pc = some ⟨b, off, none⟩ ∧ InC w b off D0) := hcc
  have HE : Hid (ReD w DO F ∧ AreO w B0 D0 cs ∧ DonR cs F KA KP ∧ B0 ≤ w.heap.size) := ⟨hre, hare, h, hB0⟩
  clear hm hN hDF hDC hatf hcc hre hare h hB0 hnzf hnzc
  obtain ⟨O1, hO1⟩ : ∃ x, x = w.heap.size + 1 := ⟨_, rfl⟩
  obtain ⟨W0, hW0⟩ : ∃ W, W = (w.alloc (.cells #[] 175)).alloc (.cells #[] 3) := ⟨_, rfl⟩
  obtain ⟨v0, hv0⟩ : ∃ v0 : Value, v0 = .slice (some ⟨w.heap.size, 0, none⟩) 0 0 := ⟨_, rfl⟩
  obtain ⟨f0, hf0⟩ : ∃ v0 : Value, v0 = .slice (some ⟨O1, 0, none⟩) 0 0 := ⟨_, rfl⟩
  have D0S : DoS w B0 v0 f0 [] [] W0 := by
    have bA : Below w.heap.size w (w.alloc (.cells #[] 175)) := (Below.refl _ _).alloc (Nat.le_refl _) _
    have hz := own_emptyZ (w.alloc (.cells #[] 175)) w.heap.size (by simp)
    rw [World.size_alloc] at hz
    rw [hW0, hv0, hf0, hO1]
    exact ⟨owns_below (own_emptyC w w.heap.size (Nat.le_refl _)) ((Below.refl _ _).alloc (Nat.le_refl _) _), .nil, hz, bA.alloc bA.size _⟩
  go_enter Tryz.func81, Tryz.ntmps81
  go_wp2
  rw [← hO1, ← hW0, ← hv0, ← hf0]
  clear hW0 hv0 hf0 hO1
  go_loopw [6, 7, 8, 19] (fun o f a' i wr => ∃ (k p : Nat) (D : List CV), k ≤ m ∧ p ≤ N ∧ i = .int .i64 k ∧ a' = .int .i64 p ∧ Hid (p = baseU (units (F.take k)) ∧ DoS w B0 o f D (don cs (units (F.take k)) 0) wr)) (fun _ _ _ i _ => m - (RowKit.intOf i).toNat)
  case atStart => exact ⟨0, 0, [], Nat.zero_le _, Nat.zero_le _, rfl, rfl, by show _ ∧ _; rw [List.take_zero]; exact ⟨rfl, D0S⟩⟩
  case round =>
    clear D0S
    obtain ⟨k, p, D, hk, hp, rfl, rfl, HD⟩ := hrel
    by_cases hlt : k < m
    · have hltI : (k : Int) < m := by omega
      obtain ⟨d, hd⟩ : ∃ d, DO[k]? = some d := ⟨_, List.getElem?_eq_getElem (by rw [HM.out.1]; exact hlt)⟩
      obtain ⟨e, he, hr⟩ := forall2_get HE.out.1 k d hd
      obtain ⟨b, off, rfl, hin⟩ := HA.out k d hd
      obtain ⟨c0, c1, c2, c3, c4, c5, c6⟩ := hin.below HD.out.2.below
      have hem := List.mem_of_getElem? he
      have hwe := HE.out.2.2.1.wel e hem
      have hfe := HE.out.2.2.1.fit e hem
      have hke := HE.out.2.2.1.kp e hem
      have hb1 := base_take_le F (k + 1)
      have hr1 := res_take_le F (k + 1)
      rw [units_take he, baseU_append, ← HD.out.1] at hb1
      rw [units_take he, resU_append] at hr1
      have hll := HD.out.2.len
      rw [don_len] at hll
      have HT : Hid (don cs (units (F.take (k + 1))) 0 = don cs (units (F.take k)) 0 ++ don cs (unitsO e) p ∧ baseU (units (F.take (k + 1))) = p + baseU (unitsO e) ∧ p + baseU (unitsO e) ≤ N ∧ D.length + resU (unitsO e) ≤ 16777216) := by
        refine ⟨by rw [don_op cs he, ← HD.out.1], by rw [units_take he, baseU_append, ← HD.out.1], ?_, ?_⟩
        · have := HE.out.2.2.1.base; have := HM.out.2.2.2; omega
        · have := HE.out.2.2.1.lr; omega
      obtain ⟨h1, h2, h3, h4, h5⟩ := hr
      have HRN : Hid (RN w (slV d.2.2.2.2) e.A) := h5
      have h5 : RN wr (slV d.2.2.2.2) e.A := h5.below HD.out.2.below
      obtain ⟨T, hTT⟩ : ∃ T, T = wr.heap.size := ⟨_, rfl⟩
      obtain ⟨W1, hW1⟩ : ∃ W, W = wr.alloc (.cells (ovC d) 33) := ⟨_, rfl⟩
      have b1 : Below wr.heap.size wr W1 := by rw [hW1]; exact (Below.refl _ _).alloc (Nat.le_refl _) _
      have n1 : W1.heap[T]? = some (.cells (ovC d) 33 (0, 0)) := by rw [hW1, hTT]; exact heap_alloc_new wr _
      have s1 : W1.heap.size = wr.heap.size + 1 := by rw [hW1]; simp
      have hww := HD.out.2.below.size
      have HS : Hid (W1.heap.size = wr.heap.size + 1 ∧ w.heap.size ≤ wr.heap.size ∧ T = wr.heap.size) := ⟨s1, hww, hTT⟩
      have HB1 : Hid (Below wr.heap.size wr W1 ∧ DoS w B0 u6 u7 D (don cs (units (F.take k)) 0) W1) := ⟨b1, HD.out.2.mono b1⟩
      have HR : Hid (RN W1 (slV d.2.2.2.2) e.A) := h5.below b1
      obtain ⟨dk, dt, ⟨dx, dn, du⟩, dc, sp, sl, sc⟩ := d
      simp only [slV, ovC] at c0 c1 c2 c3 c4 c5 c6 h1 h2 h3 h4 HR HRN hW1 n1
      have d0 : W1.cell? ⟨T, 0, none⟩ = some (.int .i64 dk) := by rw [cell_of_heap n1]; rfl
      have d1 : W1.cell? ⟨T, 1, none⟩ = some (.string dt) := by rw [cell_of_heap n1]; rfl
      have d2 : W1.cell? ⟨T, 2, none⟩ = some (.int .i64 dx) := by rw [cell_of_heap n1]; rfl
      have d3 : W1.cell? ⟨T, 3, none⟩ = some (.int .i64 dn) := by rw [cell_of_heap n1]; rfl
      have d4 : W1.cell? ⟨T, 4, none⟩ = some (.string du) := by rw [cell_of_heap n1]; rfl
      have d5 : W1.cell? ⟨T, 5, none⟩ = some (.int .i64 dc) := by rw [cell_of_heap n1]; rfl
      have d6 : W1.cell? ⟨T, 6, none⟩ = some (.slice sp sl sc) := by rw [cell_of_heap n1]; rfl
      have HN1 : Hid (W1.heap[T]? = some (.cells #[.int .i64 dk, .string dt, .int .i64 dx, .int .i64 dn, .string du, .int .i64 dc, .slice sp sl sc] 33 (0, 0))) := n1
      have HQQ : Hid (dk = e.k ∧ dt = e.t ∧ (dx, dn, du) = e.v ∧ dc = e.c) := ⟨h1, h2, h3, h4⟩
      clear hin hd he hem h5 b1 n1 s1 HD hb1 hr1 hll hww h1 h2 h3 h4
      go_upto_region 6 with fail
      rw [← hW1, ← hTT]
      clear hW1 hTT c0 c1 c2 c3 c4 c5 c6
      obtain ⟨h1, h2, h3, h4⟩ := HQQ.out
      clear HQQ
      rcases hwe.kinds with hk1 | hk1 | hk1 | hk1
      · have hI : Ins e := (hwe.resolve_right (by rintro (h | h) <;> omega)).1
        have hu : unitsO e = (cellsOf e).map U6.ins := unitsO_1 (by omega)
        have HT2 : Hid (don cs (units (F.take (k + 1))) 0 = don cs (units (F.take k)) 0 ++ (cellsOf e).map (fun c => (c, (-1 : Int))) ∧ baseU (units (F.take (k + 1))) = p ∧ D.length + (cellsOf e).length ≤ 16777216) := by
          have := HT.out
          rw [hu, don_ins, baseU_map, resU_ins, Nat.add_zero] at this
          exact ⟨this.1, this.2.1, this.2.2.2⟩
        have cC := refCells_any e (.slice sp sl sc) W1 HR.out hfe hI
        obtain ⟨ek, et, ⟨ex, en, eu⟩, ec, eA⟩ := e
        simp only [Prod.mk.injEq] at h1 h2 h3 h4 hk1
        obtain ⟨h3, h7, h8⟩ := h3
        subst hk1
        subst h1; subst h2; subst h3; subst h4; subst h7; subst h8
        obtain ⟨CL, hCL⟩ : ∃ x, cellsOf (⟨1, dt, (dx, dn, du), dc, eA⟩ : Op5) = x := ⟨_, rfl⟩
        rw [hCL] at cC HT2
        clear HT HR hwe hfe hke hI hu hCL
        go_wp2_with fail
        refine cC.mono ?_; rintro r w5 ⟨vc, DC, rfl, oc, ac, b5⟩
        have hlC := forall2_len ac
        obtain ⟨n, hn⟩ : ∃ n, DC.length = n := ⟨_, rfl⟩
        obtain ⟨pv, cv, ev⟩ := own_slice oc
        rw [hn] at ev
        subst ev
        have HOC := Hid.mk' oc
        have DS5 : DoS w B0 u6 u7 D (don cs (units (F.take k)) 0) w5 := HB1.out.2.mono b5
        have HC5 : Hid (n = CL.length ∧ DC.length = n ∧ (0 < n → ∃ gc cur, pv = some ⟨gc, 0, none⟩ ∧ w5.heap[gc]? = some (.cells cur 175 (0, 0)) ∧ W1.heap.size ≤ gc ∧ InC w5 gc 0 DC)) := by
          refine ⟨by omega, hn, fun hn0 => ?_⟩
          rcases HOC.out.2 with ⟨e, h0⟩ | ⟨g, cap, cur, e, g1, g2, _⟩
          · omega
          · simp only [Value.slice.injEq] at e
            refine ⟨g, cur, e.1, g2, g1, fun j u hu => ?_⟩
            obtain ⟨q, c', hq, h5, h6, hin⟩ := own_rowC HOC.out
            simp only [Value.slice.injEq] at hq
            obtain ⟨b', off', hb', hin'⟩ := hin (by intro e0; rw [e0] at hn; simp at hn; omega)
            have hp1 : some (⟨g, 0, none⟩ : Addr) = some ⟨b', off', none⟩ := by rw [← e.1, hq.1, hb']
            simp only [Option.some.injEq, Addr.mk.injEq, and_true] at hp1
            obtain ⟨rfl, rfl⟩ := hp1
            exact hin' j u hu
        have HA5 : Hid (AreO w5 B0 DC CL) := AreO.weaken ac (by have := HS.out; have := HE.out.2.2.2; omega)
        have hlow : ∀ j, u6.ownBlock = some j → j < W1.heap.size := fun j hj => by
          obtain ⟨_, cur, hc⟩ := owns_block HB1.out.2.own j hj
          exact (Array.getElem?_eq_some_iff.1 hc).1
        have hLow : Hid (∀ g, W1.heap.size ≤ g → u6.ownBlock ≠ some g) := fun g hg e => by have := hlow g e; omega
        have hs0 : w.heap.size ≤ w5.heap.size := DS5.below.size
        have hn16 : n ≤ 16777216 := by have := HC5.out.1; have := HT2.out.2.2; omega
        clear cC oc ac hlC hn b5 hlow HB1 HN1 d0 d1 d2 d3 d4 d5 d6
        go_wp2_with fail
        have hpv : Hid (∀ g, pv = some ⟨g, 0, none⟩ → W1.heap.size ≤ g → u6.ownBlock ≠ some g) := fun g _ hg => hLow.out g hg
        clear hLow
        go_loopw [6, 7, 28] (fun o f i wr => ∃ (j : Nat) (D' : List CV), j ≤ n ∧ i = .int .i64 j ∧ Hid (DoS w B0 o f D' (don cs (units (F.take k)) 0 ++ (CL.take j).map (fun c => (c, (-1 : Int)))) wr ∧ D'.length = D.length + j) ∧ Hid (AreO wr B0 DC CL ∧ ∀ g cur, pv = some ⟨g, 0, none⟩ → w5.heap[g]? = some (.cells cur 175 (0, 0)) → W1.heap.size ≤ g → wr.heap[g]? = some (.cells cur 175 (0, 0)) ∧ o.ownBlock ≠ some g)) (fun _ _ i _ => n - (RowKit.intOf i).toNat)
        case atStart => exact ⟨0, D, Nat.zero_le _, rfl, by show _ ∧ _; rw [List.take_zero, List.map_nil, List.append_nil]; exact ⟨DS5, rfl⟩, HA5.out, fun g cur h1 h2 h3 => ⟨h2, hpv.out g h1 h3⟩⟩
        case round =>
          clear DS5
          obtain ⟨j, D', hj, rfl, HDJ, HAJ⟩ := hrel
          by_cases hlj : j < n
          · have hljI : (j : Int) < n := by omega
            obtain ⟨gc, cur, rfl, g2, g1, hinC⟩ := HC5.out.2.2 (by omega)
            obtain ⟨gk, gne⟩ := HAJ.out.2 gc cur rfl g2 g1
            obtain ⟨dd, hdd⟩ : ∃ d, DC[j]? = some d := ⟨_, List.getElem?_eq_getElem (by rw [HC5.out.2.1]; exact hlj)⟩
            obtain ⟨ce, hce, hrr⟩ := forall2_get HAJ.out.1 j dd hdd
            obtain ⟨x0, x1, x2, x3, x4, x5⟩ := cellsC_get DC j dd hdd
            have tr : ∀ i, wr.cell? ⟨gc, i, none⟩ = w5.cell? ⟨gc, i, none⟩ := fun i => World.cell?_of_block (a := ⟨gc, i, none⟩) (by show wr.heap[gc]? = w5.heap[gc]?; rw [gk, g2])
            have c0 := (tr _).trans (hinC _ _ x0)
            have c1 := (tr _).trans (hinC _ _ x1)
            have c2 := (tr _).trans (hinC _ _ x2)
            have c3 := (tr _).trans (hinC _ _ x3)
            have c4 := (tr _).trans (hinC _ _ x4)
            have c5 := (tr _).trans (hinC _ _ x5)
            simp only [Nat.zero_add] at c0 c1 c2 c3 c4 c5
            have HTJ : Hid ((CL.take (j + 1)).map (fun c => (c, (-1 : Int))) = (CL.take j).map (fun c => (c, (-1 : Int))) ++ [(ce, -1)] ∧ D'.length = D.length + j ∧ D.length + CL.length ≤ 16777216 ∧ n = CL.length) := ⟨by rw [List.take_add_one, hce, Option.toList_some, List.map_append]; rfl, HDJ.out.2, HT2.out.2.2, HC5.out.1⟩
            obtain ⟨W7, hW7⟩ : ∃ W, W = (wr.alloc (.cells (ceC dd) 175)).alloc (.cells (ceC dd) 175) := ⟨_, rfl⟩
            have b7 : Below wr.heap.size wr W7 := by rw [hW7]; exact ((Below.refl _ _).alloc (Nat.le_refl _) _).alloc (by simp) _
            have n7 : W7.heap[wr.heap.size + 1]? = some (.cells (ceC dd) 175 (0, 0)) := by
              rw [hW7]
              have := heap_alloc_new (wr.alloc (.cells (ceC dd) 175)) (.cells (ceC dd) 175)
              rwa [World.size_alloc] at this
            obtain ⟨t1, t2⟩ := HDJ.out.1.top b7
            have H7 : Hid (OwnC W7 w.heap.size u6 D' ∧ W7.heap[wr.heap.size + 1]? = some (.cells (ceC dd) 175 (0, 0)) ∧ Below wr.heap.size wr W7 ∧ W7 = (wr.alloc (.cells (ceC dd) 175)).alloc (.cells (ceC dd) 175)) := ⟨t1, n7, b7, hW7⟩
            have HRR : Hid (dd.1 = ce.1 ∧ dd.2.1 = ce.2.1 ∧ dd.2.2.1 = ce.2.2.1 ∧ OwnA W7 B0 (slV dd.2.2.2) ce.2.2.2) := ⟨hrr.1, hrr.2.1, hrr.2.2.1, keepA_own hrr.2.2.2 (keepA_below b7)⟩
            have hl7 : D'.length + 1 ≤ 33554432 := by have := HTJ.out; omega
            have HG : Hid (gc < wr.heap.size ∧ wr.heap[gc]? = some (.cells cur 175 (0, 0)) ∧ w5.heap[gc]? = some (.cells cur 175 (0, 0)) ∧ u6.ownBlock ≠ some gc) := ⟨(Array.getElem?_eq_some_iff.1 gk).1, gk, g2, gne⟩
            have hl9 : ((don cs (units (F.take k)) 0 ++ (CL.take j).map (fun c => (c, (-1 : Int)))).map fun x => Value.int .i64 x.2).length ≤ 33554432 := by rw [List.length_map, ← HDJ.out.1.len]; omega
            obtain ⟨P9, hP9⟩ : ∃ P, P = (don cs (units (F.take k)) 0 ++ (CL.take j).map (fun c => (c, (-1 : Int)))).map fun x => Value.int .i64 x.2 := ⟨_, rfl⟩
            have HP9 : Hid (P9 = (don cs (units (F.take k)) 0 ++ (CL.take j).map (fun c => (c, (-1 : Int)))).map fun x => Value.int .i64 x.2) := hP9
            rw [← hP9] at hl9
            clear hP9 x0 x1 x2 x3 x4 x5 tr hdd hce hrr gk gne hinC g2 b7 n7 t1
            obtain ⟨ddk, ddt, ⟨ddx, ddn, ddu⟩, ddp, ddl, ddc⟩ := dd
            simp only [slV, ceC] at c0 c1 c2 c3 c4 c5 H7 HRR hW7
            go_upto_region 10 with fail
            go_wp2_with (first | (at_builtin; rw [← hW7]; refine wpList_append_cellsx rfl (.tmp 32) (.tmp 34) rfl w.heap.size u6 D' rfl H7.out.1 (wr.heap.size + 1) (ddk, ddt, (ddx, ddn, ddu), ddp, ddl, ddc) rfl H7.out.2.1 hl7 t2 ?_; intro v8 w8 own8 gr8 at8; have Z8 := HDJ.out.1.mid H7.out.2.2.1 gr8 (.cells #[.int .i64 (-1)] 3); rw [← HP9.out] at Z8; have HZ8 := Hid.mk' Z8; have H8 := Hid.mk' (And.intro own8 (And.intro gr8 at8)); have cz : (w8.alloc (.cells #[.int .i64 (-1)] 3)).cell? ⟨w8.heap.size, 0, none⟩ = some (.int .i64 (-1)) := (by rw [cell_of_heap (heap_alloc_new w8 _)]; rfl); have hz8 := Z8.2; clear own8 gr8 at8 Z8 hW7 c0 c1 c2 c3 c4 c5) | (at_builtin; refine wpList_append_zz rfl (.tmp 36) (.tmp 37) rfl w.heap.size u7 P9 rfl HZ8.out.1 w8.heap.size 1 (.int .i64 (-1)) rfl cz rfl hl9 hz8 ?_; intro v9 w9 own9 gr9; have H9 := Hid.mk' (And.intro own9 gr9); clear own9 gr9 cz))
            have own9 := H9.out.1
            rw [HP9.out] at own9
            obtain ⟨q1, q2⟩ := HDJ.out.1.two H7.out.2.2.1 HRR.out H8.out.1 H8.out.2.1 own9 H9.out.2
            have hbk : w9.heap[gc]? = some (.cells cur 175 (0, 0)) ∧ v8.ownBlock ≠ some gc := by
              have e7 := H7.out.2.2.1.block gc HG.out.1
              have e8 := H8.out.2.1.block gc (by have := H7.out.2.2.1.size; have := HG.out.1; omega) (fun e => HG.out.2.2.2 e.symm)
              have e8a : (w8.alloc (.cells #[.int .i64 (-1)] 3)).heap[gc]? = some (.cells cur 175 (0, 0)) := by
                rw [Below.heap_alloc _ _ _ (by have := H7.out.2.2.1.size; have := H8.out.2.1.size; have := HG.out.1; omega), e8, e7]; exact HG.out.2.1
              have k9 := keepT_grown (e := 175) HZ8.out.1 H9.out.2 (by decide) gc cur e8a
              refine ⟨k9.trans e8a, fun e => ?_⟩
              rcases H8.out.2.2 with h | h
              · rw [h] at e; exact HG.out.2.2.2 e
              · rw [h] at e
                have := Option.some.inj e
                have := H7.out.2.2.1.size
                have := HG.out.1
                omega
            have HX : Hid (DoS w B0 v8 v9 (D' ++ [(ddk, ddt, (ddx, ddn, ddu), ddp, ddl, ddc)]) (don cs (units (F.take k)) 0 ++ (CL.take (j + 1)).map (fun c => (c, (-1 : Int)))) w9 ∧ (D' ++ [(ddk, ddt, (ddx, ddn, ddu), ddp, ddl, ddc)]).length = D.length + (j + 1)) := ⟨by rw [HTJ.out.1, ← List.append_assoc]; exact q1, by rw [List.length_append, HDJ.out.2]; simp; omega⟩
            have HY : Hid (AreO w9 B0 DC CL ∧ ∀ g cur', some (⟨gc, 0, none⟩ : Addr) = some ⟨g, 0, none⟩ → w5.heap[g]? = some (.cells cur' 175 (0, 0)) → W1.heap.size ≤ g → w9.heap[g]? = some (.cells cur' 175 (0, 0)) ∧ v8.ownBlock ≠ some g) := by
              refine ⟨?_, fun g cur' e1 e2 _ => ?_⟩
              · refine HAJ.out.1.keep (((keepA_below H7.out.2.2.1).trans (keepA_grown H7.out.1 H8.out.2.1)).trans ((keepA_below ((Below.refl _ _).alloc (Nat.le_refl _) _)).trans fun k cur hk => keepT_grown (e := 154) HZ8.out.1 H9.out.2 (by decide) k cur hk))
              · simp only [Option.some.injEq, Addr.mk.injEq, and_true] at e1
                subst e1
                have : cur' = cur := by
                  have := e2.symm.trans HG.out.2.2.1
                  simp only [Option.some.injEq, Obj.cells.injEq, and_true] at this
                  exact this
                subst this
                exact hbk
            clear H9 H8 HZ8 H7 HP9 HG own9 q1 q2 hbk HRR HDJ HAJ
            go_wp2
            go_roundw
            case rel => exact ⟨j + 1, _, by omega, by go_num, HX.out, HY.out⟩
            case measure => simp [RowKit.intOf]; omega
          · have hljI : ¬ (j : Int) < n := by omega
            have hall : CL.take j = CL := List.take_of_length_le (by have := HC5.out.1; omega)
            have HX : Hid (DoS w B0 u6 u7 D' (don cs (units (F.take (k + 1))) 0) wr) := by
              have := HDJ.out.1
              rw [hall, ← HT2.out.1] at this
              exact this
            have HP : Hid (p = baseU (units (F.take (k + 1)))) := HT2.out.2.1.symm
            clear HDJ HAJ hall
            go_wp2
            go_roundw
            case rel => exact ⟨k + 1, p, D', by omega, hp, by go_num, rfl, HP.out, HX.out⟩
            case measure => simp [RowKit.intOf]; omega
      · have hI : Ins e := (hwe.resolve_right (by rintro (h | h) <;> omega)).1
        have hu : unitsO e = (cellsOf e).map U6.ins := unitsO_1 (by omega)
        have HT2 : Hid (don cs (units (F.take (k + 1))) 0 = don cs (units (F.take k)) 0 ++ (cellsOf e).map (fun c => (c, (-1 : Int))) ∧ baseU (units (F.take (k + 1))) = p ∧ D.length + (cellsOf e).length ≤ 16777216) := by
          have := HT.out
          rw [hu, don_ins, baseU_map, resU_ins, Nat.add_zero] at this
          exact ⟨this.1, this.2.1, this.2.2.2⟩
        have cC := refCells_any e (.slice sp sl sc) W1 HR.out hfe hI
        obtain ⟨ek, et, ⟨ex, en, eu⟩, ec, eA⟩ := e
        simp only [Prod.mk.injEq] at h1 h2 h3 h4 hk1
        obtain ⟨h3, h7, h8⟩ := h3
        subst hk1
        subst h1; subst h2; subst h3; subst h4; subst h7; subst h8
        obtain ⟨CL, hCL⟩ : ∃ x, cellsOf (⟨2, dt, (dx, dn, du), dc, eA⟩ : Op5) = x := ⟨_, rfl⟩
        rw [hCL] at cC HT2
        clear HT HR hwe hfe hke hI hu hCL
        go_wp2_with fail
        refine cC.mono ?_; rintro r w5 ⟨vc, DC, rfl, oc, ac, b5⟩
        have hlC := forall2_len ac
        obtain ⟨n, hn⟩ : ∃ n, DC.length = n := ⟨_, rfl⟩
        obtain ⟨pv, cv, ev⟩ := own_slice oc
        rw [hn] at ev
        subst ev
        have HOC := Hid.mk' oc
        have DS5 : DoS w B0 u6 u7 D (don cs (units (F.take k)) 0) w5 := HB1.out.2.mono b5
        have HC5 : Hid (n = CL.length ∧ DC.length = n ∧ (0 < n → ∃ gc cur, pv = some ⟨gc, 0, none⟩ ∧ w5.heap[gc]? = some (.cells cur 175 (0, 0)) ∧ W1.heap.size ≤ gc ∧ InC w5 gc 0 DC)) := by
          refine ⟨by omega, hn, fun hn0 => ?_⟩
          rcases HOC.out.2 with ⟨e, h0⟩ | ⟨g, cap, cur, e, g1, g2, _⟩
          · omega
          · simp only [Value.slice.injEq] at e
            refine ⟨g, cur, e.1, g2, g1, fun j u hu => ?_⟩
            obtain ⟨q, c', hq, h5, h6, hin⟩ := own_rowC HOC.out
            simp only [Value.slice.injEq] at hq
            obtain ⟨b', off', hb', hin'⟩ := hin (by intro e0; rw [e0] at hn; simp at hn; omega)
            have hp1 : some (⟨g, 0, none⟩ : Addr) = some ⟨b', off', none⟩ := by rw [← e.1, hq.1, hb']
            simp only [Option.some.injEq, Addr.mk.injEq, and_true] at hp1
            obtain ⟨rfl, rfl⟩ := hp1
            exact hin' j u hu
        have HA5 : Hid (AreO w5 B0 DC CL) := AreO.weaken ac (by have := HS.out; have := HE.out.2.2.2; omega)
        have hlow : ∀ j, u6.ownBlock = some j → j < W1.heap.size := fun j hj => by
          obtain ⟨_, cur, hc⟩ := owns_block HB1.out.2.own j hj
          exact (Array.getElem?_eq_some_iff.1 hc).1
        have hLow : Hid (∀ g, W1.heap.size ≤ g → u6.ownBlock ≠ some g) := fun g hg e => by have := hlow g e; omega
        have hs0 : w.heap.size ≤ w5.heap.size := DS5.below.size
        have hn16 : n ≤ 16777216 := by have := HC5.out.1; have := HT2.out.2.2; omega
        clear cC oc ac hlC hn b5 hlow HB1 HN1 d0 d1 d2 d3 d4 d5 d6
        go_wp2_with fail
        have hpv : Hid (∀ g, pv = some ⟨g, 0, none⟩ → W1.heap.size ≤ g → u6.ownBlock ≠ some g) := fun g _ hg => hLow.out g hg
        clear hLow
        go_loopw [6, 7, 28] (fun o f i wr => ∃ (j : Nat) (D' : List CV), j ≤ n ∧ i = .int .i64 j ∧ Hid (DoS w B0 o f D' (don cs (units (F.take k)) 0 ++ (CL.take j).map (fun c => (c, (-1 : Int)))) wr ∧ D'.length = D.length + j) ∧ Hid (AreO wr B0 DC CL ∧ ∀ g cur, pv = some ⟨g, 0, none⟩ → w5.heap[g]? = some (.cells cur 175 (0, 0)) → W1.heap.size ≤ g → wr.heap[g]? = some (.cells cur 175 (0, 0)) ∧ o.ownBlock ≠ some g)) (fun _ _ i _ => n - (RowKit.intOf i).toNat)
        case atStart => exact ⟨0, D, Nat.zero_le _, rfl, by show _ ∧ _; rw [List.take_zero, List.map_nil, List.append_nil]; exact ⟨DS5, rfl⟩, HA5.out, fun g cur h1 h2 h3 => ⟨h2, hpv.out g h1 h3⟩⟩
        case round =>
          clear DS5
          obtain ⟨j, D', hj, rfl, HDJ, HAJ⟩ := hrel
          by_cases hlj : j < n
          · have hljI : (j : Int) < n := by omega
            obtain ⟨gc, cur, rfl, g2, g1, hinC⟩ := HC5.out.2.2 (by omega)
            obtain ⟨gk, gne⟩ := HAJ.out.2 gc cur rfl g2 g1
            obtain ⟨dd, hdd⟩ : ∃ d, DC[j]? = some d := ⟨_, List.getElem?_eq_getElem (by rw [HC5.out.2.1]; exact hlj)⟩
            obtain ⟨ce, hce, hrr⟩ := forall2_get HAJ.out.1 j dd hdd
            obtain ⟨x0, x1, x2, x3, x4, x5⟩ := cellsC_get DC j dd hdd
            have tr : ∀ i, wr.cell? ⟨gc, i, none⟩ = w5.cell? ⟨gc, i, none⟩ := fun i => World.cell?_of_block (a := ⟨gc, i, none⟩) (by show wr.heap[gc]? = w5.heap[gc]?; rw [gk, g2])
            have c0 := (tr _).trans (hinC _ _ x0)
            have c1 := (tr _).trans (hinC _ _ x1)
            have c2 := (tr _).trans (hinC _ _ x2)
            have c3 := (tr _).trans (hinC _ _ x3)
            have c4 := (tr _).trans (hinC _ _ x4)
            have c5 := (tr _).trans (hinC _ _ x5)
            simp only [Nat.zero_add] at c0 c1 c2 c3 c4 c5
            have HTJ : Hid ((CL.take (j + 1)).map (fun c => (c, (-1 : Int))) = (CL.take j).map (fun c => (c, (-1 : Int))) ++ [(ce, -1)] ∧ D'.length = D.length + j ∧ D.length + CL.length ≤ 16777216 ∧ n = CL.length) := ⟨by rw [List.take_add_one, hce, Option.toList_some, List.map_append]; rfl, HDJ.out.2, HT2.out.2.2, HC5.out.1⟩
            obtain ⟨W7, hW7⟩ : ∃ W, W = (wr.alloc (.cells (ceC dd) 175)).alloc (.cells (ceC dd) 175) := ⟨_, rfl⟩
            have b7 : Below wr.heap.size wr W7 := by rw [hW7]; exact ((Below.refl _ _).alloc (Nat.le_refl _) _).alloc (by simp) _
            have n7 : W7.heap[wr.heap.size + 1]? = some (.cells (ceC dd) 175 (0, 0)) := by
              rw [hW7]
              have := heap_alloc_new (wr.alloc (.cells (ceC dd) 175)) (.cells (ceC dd) 175)
              rwa [World.size_alloc] at this
            obtain ⟨t1, t2⟩ := HDJ.out.1.top b7
            have H7 : Hid (OwnC W7 w.heap.size u6 D' ∧ W7.heap[wr.heap.size + 1]? = some (.cells (ceC dd) 175 (0, 0)) ∧ Below wr.heap.size wr W7 ∧ W7 = (wr.alloc (.cells (ceC dd) 175)).alloc (.cells (ceC dd) 175)) := ⟨t1, n7, b7, hW7⟩
            have HRR : Hid (dd.1 = ce.1 ∧ dd.2.1 = ce.2.1 ∧ dd.2.2.1 = ce.2.2.1 ∧ OwnA W7 B0 (slV dd.2.2.2) ce.2.2.2) := ⟨hrr.1, hrr.2.1, hrr.2.2.1, keepA_own hrr.2.2.2 (keepA_below b7)⟩
            have hl7 : D'.length + 1 ≤ 33554432 := by have := HTJ.out; omega
            have HG : Hid (gc < wr.heap.size ∧ wr.heap[gc]? = some (.cells cur 175 (0, 0)) ∧ w5.heap[gc]? = some (.cells cur 175 (0, 0)) ∧ u6.ownBlock ≠ some gc) := ⟨(Array.getElem?_eq_some_iff.1 gk).1, gk, g2, gne⟩
            have hl9 : ((don cs (units (F.take k)) 0 ++ (CL.take j).map (fun c => (c, (-1 : Int)))).map fun x => Value.int .i64 x.2).length ≤ 33554432 := by rw [List.length_map, ← HDJ.out.1.len]; omega
            obtain ⟨P9, hP9⟩ : ∃ P, P = (don cs (units (F.take k)) 0 ++ (CL.take j).map (fun c => (c, (-1 : Int)))).map fun x => Value.int .i64 x.2 := ⟨_, rfl⟩
            have HP9 : Hid (P9 = (don cs (units (F.take k)) 0 ++ (CL.take j).map (fun c => (c, (-1 : Int)))).map fun x => Value.int .i64 x.2) := hP9
            rw [← hP9] at hl9
            clear hP9 x0 x1 x2 x3 x4 x5 tr hdd hce hrr gk gne hinC g2 b7 n7 t1
            obtain ⟨ddk, ddt, ⟨ddx, ddn, ddu⟩, ddp, ddl, ddc⟩ := dd
            simp only [slV, ceC] at c0 c1 c2 c3 c4 c5 H7 HRR hW7
            go_upto_region 10 with fail
            go_wp2_with (first | (at_builtin; rw [← hW7]; refine wpList_append_cellsx rfl (.tmp 32) (.tmp 34) rfl w.heap.size u6 D' rfl H7.out.1 (wr.heap.size + 1) (ddk, ddt, (ddx, ddn, ddu), ddp, ddl, ddc) rfl H7.out.2.1 hl7 t2 ?_; intro v8 w8 own8 gr8 at8; have Z8 := HDJ.out.1.mid H7.out.2.2.1 gr8 (.cells #[.int .i64 (-1)] 3); rw [← HP9.out] at Z8; have HZ8 := Hid.mk' Z8; have H8 := Hid.mk' (And.intro own8 (And.intro gr8 at8)); have cz : (w8.alloc (.cells #[.int .i64 (-1)] 3)).cell? ⟨w8.heap.size, 0, none⟩ = some (.int .i64 (-1)) := (by rw [cell_of_heap (heap_alloc_new w8 _)]; rfl); have hz8 := Z8.2; clear own8 gr8 at8 Z8 hW7 c0 c1 c2 c3 c4 c5) | (at_builtin; refine wpList_append_zz rfl (.tmp 36) (.tmp 37) rfl w.heap.size u7 P9 rfl HZ8.out.1 w8.heap.size 1 (.int .i64 (-1)) rfl cz rfl hl9 hz8 ?_; intro v9 w9 own9 gr9; have H9 := Hid.mk' (And.intro own9 gr9); clear own9 gr9 cz))
            have own9 := H9.out.1
            rw [HP9.out] at own9
            obtain ⟨q1, q2⟩ := HDJ.out.1.two H7.out.2.2.1 HRR.out H8.out.1 H8.out.2.1 own9 H9.out.2
            have hbk : w9.heap[gc]? = some (.cells cur 175 (0, 0)) ∧ v8.ownBlock ≠ some gc := by
              have e7 := H7.out.2.2.1.block gc HG.out.1
              have e8 := H8.out.2.1.block gc (by have := H7.out.2.2.1.size; have := HG.out.1; omega) (fun e => HG.out.2.2.2 e.symm)
              have e8a : (w8.alloc (.cells #[.int .i64 (-1)] 3)).heap[gc]? = some (.cells cur 175 (0, 0)) := by
                rw [Below.heap_alloc _ _ _ (by have := H7.out.2.2.1.size; have := H8.out.2.1.size; have := HG.out.1; omega), e8, e7]; exact HG.out.2.1
              have k9 := keepT_grown (e := 175) HZ8.out.1 H9.out.2 (by decide) gc cur e8a
              refine ⟨k9.trans e8a, fun e => ?_⟩
              rcases H8.out.2.2 with h | h
              · rw [h] at e; exact HG.out.2.2.2 e
              · rw [h] at e
                have := Option.some.inj e
                have := H7.out.2.2.1.size
                have := HG.out.1
                omega
            have HX : Hid (DoS w B0 v8 v9 (D' ++ [(ddk, ddt, (ddx, ddn, ddu), ddp, ddl, ddc)]) (don cs (units (F.take k)) 0 ++ (CL.take (j + 1)).map (fun c => (c, (-1 : Int)))) w9 ∧ (D' ++ [(ddk, ddt, (ddx, ddn, ddu), ddp, ddl, ddc)]).length = D.length + (j + 1)) := ⟨by rw [HTJ.out.1, ← List.append_assoc]; exact q1, by rw [List.length_append, HDJ.out.2]; simp; omega⟩
            have HY : Hid (AreO w9 B0 DC CL ∧ ∀ g cur', some (⟨gc, 0, none⟩ : Addr) = some ⟨g, 0, none⟩ → w5.heap[g]? = some (.cells cur' 175 (0, 0)) → W1.heap.size ≤ g → w9.heap[g]? = some (.cells cur' 175 (0, 0)) ∧ v8.ownBlock ≠ some g) := by
              refine ⟨?_, fun g cur' e1 e2 _ => ?_⟩
              · refine HAJ.out.1.keep (((keepA_below H7.out.2.2.1).trans (keepA_grown H7.out.1 H8.out.2.1)).trans ((keepA_below ((Below.refl _ _).alloc (Nat.le_refl _) _)).trans fun k cur hk => keepT_grown (e := 154) HZ8.out.1 H9.out.2 (by decide) k cur hk))
              · simp only [Option.some.injEq, Addr.mk.injEq, and_true] at e1
                subst e1
                have : cur' = cur := by
                  have := e2.symm.trans HG.out.2.2.1
                  simp only [Option.some.injEq, Obj.cells.injEq, and_true] at this
                  exact this
                subst this
                exact hbk
            clear H9 H8 HZ8 H7 HP9 HG own9 q1 q2 hbk HRR HDJ HAJ
            go_wp2
            go_roundw
            case rel => exact ⟨j + 1, _, by omega, by go_num, HX.out, HY.out⟩
            case measure => simp [RowKit.intOf]; omega
          · have hljI : ¬ (j : Int) < n := by omega
            have hall : CL.take j = CL := List.take_of_length_le (by have := HC5.out.1; omega)
            have HX : Hid (DoS w B0 u6 u7 D' (don cs (units (F.take (k + 1))) 0) wr) := by
              have := HDJ.out.1
              rw [hall, ← HT2.out.1] at this
              exact this
            have HP : Hid (p = baseU (units (F.take (k + 1)))) := HT2.out.2.1.symm
            clear HDJ HAJ hall
            go_wp2
            go_roundw
            case rel => exact ⟨k + 1, p, D', by omega, hp, by go_num, rfl, HP.out, HX.out⟩
            case measure => simp [RowKit.intOf]; omega
      · -- a retain: each cell kept, with its patch
        have hc1 := hwe.count (.inl hk1)
        obtain ⟨cn, hcn⟩ : ∃ cn : Nat, e.c = cn := ⟨e.c.toNat, by omega⟩
        have hu : unitsO e = List.replicate cn (.keep e.A) := by rw [unitsO_3 hk1, hcn, Int.toNat_natCast]
        have HT2 : Hid (don cs (units (F.take (k + 1))) 0 = don cs (units (F.take k)) 0 ++ don cs (List.replicate cn (.keep e.A)) p ∧ baseU (units (F.take (k + 1))) = p + cn ∧ p + cn ≤ N ∧ D.length + cn ≤ 16777216) := by
          have := HT.out
          rw [hu, baseU_keeps, resU_keeps] at this
          exact this
        rw [hcn] at h4
        have hpc := HT2.out.2.2.1
        obtain ⟨ek, et, ⟨ex, en, eu⟩, ec, eA⟩ := e
        simp only [Prod.mk.injEq] at h1 h2 h3 h4 hk1
        simp only at hke HT2 HR HRN
        obtain ⟨h3, h7, h8⟩ := h3
        subst hk1
        subst h1; subst h2; subst h3; subst h4; subst h7; subst h8
        clear HT hwe hfe hc1 hcn hu
        go_wp2_with fail
        have HB2 := Hid.mk' HB1.out.2
        have HRW : Hid (∀ W, Below w.heap.size w W → RN W (.slice sp sl sc) eA) := fun W hW => HRN.out.below hW
        have hcn16 : cn ≤ 16777216 := by omega
        clear HB1 d0 d1 d2 d3 d4 d5 d6
        go_loopw [6, 7, 8, 11] (fun o f a' i wr => ∃ (j q : Nat) (D' : List CV), j ≤ cn ∧ q ≤ N ∧ i = .int .i64 j ∧ a' = .int .i64 q ∧ Hid (q = p + j ∧ DoS w B0 o f D' (don cs (units (F.take k)) 0 ++ don cs (List.replicate j (.keep eA)) p) wr ∧ D'.length = D.length + j ∧ RN wr (.slice sp sl sc) eA) ∧ wr.heap[T]? = some (.cells #[.int .i64 3, .string dt, .int .i64 dx, .int .i64 dn, .string du, .int .i64 cn, .slice sp sl sc] 33 (0, 0))) (fun _ _ _ i _ => cn - (RowKit.intOf i).toNat)
        case atStart => exact ⟨0, p, D, Nat.zero_le _, hp, rfl, rfl, ⟨by omega, by show DoS _ _ _ _ _ (_ ++ []) _; rw [List.append_nil]; exact HB2.out, rfl, HR.out⟩, HN1.out⟩
        case round =>
          clear HB2
          obtain ⟨j, q, D', hj, hq, rfl, rfl, HDJ, nT⟩ := hrel
          have q5 : wr.cell? ⟨T, 5, none⟩ = some (.int .i64 cn) := by rw [cell_of_heap nT]; rfl
          by_cases hlj : j < cn
          · have hljI : (j : Int) < cn := by omega
            have hqN : q < N := by have := HDJ.out.1; omega
            have hqI : (q : Int) < N := by omega
            have hq0 : (0 : Int) ≤ (q : Int) := by omega
            have q6 : wr.cell? ⟨T, 6, none⟩ = some (.slice sp sl sc) := by rw [cell_of_heap nT]; rfl
            have hTlt : T < wr.heap.size := (Array.getElem?_eq_some_iff.1 nT).1
            obtain ⟨dd, hdd⟩ : ∃ d, D0[q]? = some d := ⟨_, List.getElem?_eq_getElem (by rw [HM.out.2.2.1]; exact hqN)⟩
            obtain ⟨ce, hce, hrr⟩ := forall2_get HE.out.2.1 q dd hdd
            obtain ⟨b2, off2, rfl, hinC⟩ := HC.out (by intro e; rw [e] at hdd; simp at hdd)
            obtain ⟨x0, x1, x2, x3, x4, x5⟩ := cellsC_get D0 q dd hdd
            have hbw := HDJ.out.2.1.below
            have c0 := (hinC.below hbw) _ _ x0
            have c1 := (hinC.below hbw) _ _ x1
            have c2 := (hinC.below hbw) _ _ x2
            have c3 := (hinC.below hbw) _ _ x3
            have c4 := (hinC.below hbw) _ _ x4
            have c5 := (hinC.below hbw) _ _ x5
            simp only [← Nat.add_assoc] at c0 c1 c2 c3 c4 c5
            have hcm := List.mem_of_getElem? hce
            obtain ⟨W2, hW2⟩ : ∃ W, W = wr.alloc (.cells (ceC dd) 175) := ⟨_, rfl⟩
            obtain ⟨T2, hT2⟩ : ∃ T, T = wr.heap.size := ⟨_, rfl⟩
            have b2' : Below wr.heap.size wr W2 := by rw [hW2]; exact (Below.refl _ _).alloc (Nat.le_refl _) _
            have n2 : W2.heap[T2]? = some (.cells (ceC dd) 175 (0, 0)) := by rw [hW2, hT2]; exact heap_alloc_new wr _
            have cP := patched10_any (slV dd.2.2.2) (.slice sp sl sc) ce.2.2.2 eA W2 (((own_RN hrr.2.2.2).below hbw).below b2').row (HDJ.out.2.2.2.below b2').row ((own_RN hrr.2.2.2).below hbw).nz (set_nn HE.out.2.2.1.set hcm) (by have := HE.out.2.2.1.ka ce hcm; have := HE.out.2.2.1.k; have := hke; omega)
            have hdq : p + j = q := by have := HDJ.out.1; omega
            have HTJ : Hid (don cs (List.replicate (j + 1) (.keep eA)) p = don cs (List.replicate j (.keep eA)) p ++ [(patC ce eA, (q : Int))] ∧ dd.1 = ce.1 ∧ dd.2.1 = ce.2.1 ∧ dd.2.2.1 = ce.2.2.1 ∧ B0 ≤ w.heap.size) := ⟨by rw [don_keep1, hdq, atC_of hce], hrr.1, hrr.2.1, hrr.2.2.1, HE.out.2.2.2⟩
            obtain ⟨PA, hPA⟩ : ∃ x, jn (chC false) ce.2.2.2 eA = x := ⟨_, rfl⟩
            have HPA : Hid (patC ce eA = (ce.1, ce.2.1, ce.2.2.1, PA)) := by show _ = _; rw [← hPA]; rfl
            rw [hPA] at cP
            have HBB : Hid (Below wr.heap.size wr W2 ∧ T2 = wr.heap.size ∧ W2.heap[T2]? = some (.cells (ceC dd) 175 (0, 0)) ∧ W2.heap.size = wr.heap.size + 1 ∧ T < wr.heap.size) := ⟨b2', hT2, n2, by rw [hW2]; simp, hTlt⟩
            have q6' : W2.cell? ⟨T, 6, none⟩ = some (.slice sp sl sc) := (b2'.cell (lt_of_cell q6)).trans q6
            have hl7 : D'.length + 1 ≤ 33554432 := by have := HDJ.out.2.2.1; have := HT2.out.2.2.2; omega
            have hl9 : ((don cs (units (F.take k)) 0 ++ don cs (List.replicate j (.keep eA)) p).map fun x => Value.int .i64 x.2).length ≤ 33554432 := by rw [List.length_map, ← HDJ.out.2.1.len]; omega
            obtain ⟨P9, hP9⟩ : ∃ P, P = (don cs (units (F.take k)) 0 ++ don cs (List.replicate j (.keep eA)) p).map fun x => Value.int .i64 x.2 := ⟨_, rfl⟩
            have HP9 : Hid (P9 = (don cs (units (F.take k)) 0 ++ don cs (List.replicate j (.keep eA)) p).map fun x => Value.int .i64 x.2) := hP9
            rw [← hP9] at hl9
            have HNT : Hid (wr.heap[T]? = some (.cells #[.int .i64 3, .string dt, .int .i64 dx, .int .i64 dn, .string du, .int .i64 cn, .slice sp sl sc] 33 (0, 0))) := nT
            clear hP9 x0 x1 x2 x3 x4 x5 hdd hce hrr hinC hbw b2' n2 hcm hdq hPA nT hTlt q6
            obtain ⟨ddk, ddt, ⟨ddx, ddn, ddu⟩, ddp, ddl, ddc⟩ := dd
            simp only [slV, ceC] at c0 c1 c2 c3 c4 c5 HBB hW2 cP
            have e0 : W2.cell? ⟨T2, 0, none⟩ = some (.int .i32 ddk) := by rw [cell_of_heap HBB.out.2.2.1]; rfl
            have e1 : W2.cell? ⟨T2, 1, none⟩ = some (.string ddt) := by rw [cell_of_heap HBB.out.2.2.1]; rfl
            have e2 : W2.cell? ⟨T2, 2, none⟩ = some (.int .i64 ddx) := by rw [cell_of_heap HBB.out.2.2.1]; rfl
            have e3 : W2.cell? ⟨T2, 3, none⟩ = some (.int .i64 ddn) := by rw [cell_of_heap HBB.out.2.2.1]; rfl
            have e4 : W2.cell? ⟨T2, 4, none⟩ = some (.string ddu) := by rw [cell_of_heap HBB.out.2.2.1]; rfl
            have e5 : W2.cell? ⟨T2, 5, none⟩ = some (.slice ddp ddl ddc) := by rw [cell_of_heap HBB.out.2.2.1]; rfl
            go_upto_region 20 with fail
            rw [← hW2, ← hT2]
            clear hW2 hT2 c0 c1 c2 c3 c4 c5 q5
            go_wp2_with fail
            refine cP.mono ?_; rintro r w5 ⟨v5, rfl, o5, b5⟩
            obtain ⟨pv, cv, rfl⟩ := own_slice o5
            obtain ⟨lv, hlv⟩ : ∃ n, PA.length = n := ⟨_, rfl⟩
            have m5 := heap_below b5 HBB.out.2.2.1
            have r0 : w5.cell? ⟨T2, 0, none⟩ = some (.int .i32 ddk) := by rw [cell_of_heap m5]; rfl
            have r1 : w5.cell? ⟨T2, 1, none⟩ = some (.string ddt) := by rw [cell_of_heap m5]; rfl
            have r2 : w5.cell? ⟨T2, 2, none⟩ = some (.int .i64 ddx) := by rw [cell_of_heap m5]; rfl
            have r3 : w5.cell? ⟨T2, 3, none⟩ = some (.int .i64 ddn) := by rw [cell_of_heap m5]; rfl
            have r4 : w5.cell? ⟨T2, 4, none⟩ = some (.string ddu) := by rw [cell_of_heap m5]; rfl
            have r5 : w5.cell? ⟨T2, 5, none⟩ = some (.slice ddp ddl ddc) := by rw [cell_of_heap m5]; rfl
            have f5 := frozen_of_heap m5 5
            obtain ⟨W7, hW7⟩ : ∃ W, W = (w5.setCell ⟨T2, 5, none⟩ (.slice pv lv cv)).alloc (.cells (ceC (ddk, ddt, (ddx, ddn, ddu), pv, lv, cv)) 175) := ⟨_, rfl⟩
            have b56 : Below wr.heap.size wr (w5.setCell ⟨T2, 5, none⟩ (.slice pv lv cv)) := (HBB.out.1.trans (b5.mono HBB.out.1.size)).setCell (p := ⟨T2, 5, none⟩) (by show wr.heap.size ≤ T2; rw [HBB.out.2.1]; exact Nat.le_refl _) _
            have b7 : Below wr.heap.size wr W7 := by rw [hW7]; exact b56.alloc b56.size _
            have s57 : (w5.setCell ⟨T2, 5, none⟩ (.slice pv lv cv)).heap.size = w5.heap.size := by simp [World.setCell]
            have n7 : W7.heap[w5.heap.size]? = some (.cells (ceC (ddk, ddt, (ddx, ddn, ddu), pv, lv, cv)) 175 (0, 0)) := by
              rw [hW7]
              have := heap_alloc_new (w5.setCell ⟨T2, 5, none⟩ (.slice pv lv cv)) (.cells (ceC (ddk, ddt, (ddx, ddn, ddu), pv, lv, cv)) 175)
              rwa [s57] at this
            have oW7 : OwnA W7 B0 (.slice pv lv cv) PA := by
              rw [hW7, ← hlv]
              exact keepA_own (own_weaken (keepA_own o5 (keepA_block m5 (by decide) ((Row1.of_below (Below.refl _ _)).setCell rfl 5 (.slice pv PA.length cv)))) (by have := HBB.out.2.2.2.1; have := HDJ.out.2.1.below.size; have := HTJ.out.2.2.2.2; omega)) (keepA_below ((Below.refl _ _).alloc (Nat.le_refl _) _))
            obtain ⟨t1, t2⟩ := HDJ.out.2.1.top b7
            have H7 : Hid (OwnC W7 w.heap.size u6 D' ∧ W7.heap[w5.heap.size]? = some (.cells (ceC (ddk, ddt, (ddx, ddn, ddu), pv, lv, cv)) 175 (0, 0)) ∧ Below wr.heap.size wr W7 ∧ OwnA W7 B0 (.slice pv lv cv) PA) := ⟨t1, n7, b7, oW7⟩
            simp only [hlv]
            simp only [ceC, slV] at hW7
            clear cP o5 b5 m5 hlv e0 e1 e2 e3 e4 e5 q6' b56 b7 s57 n7 oW7 t1
            go_wp2_with (first | (at_builtin; rw [← hW7]; refine wpList_append_cellsx rfl (.tmp 64) (.tmp 66) rfl w.heap.size u6 D' rfl H7.out.1 w5.heap.size (ddk, ddt, (ddx, ddn, ddu), pv, lv, cv) rfl H7.out.2.1 hl7 t2 ?_; intro v8 w8 own8 gr8 at8; have Z8 := HDJ.out.2.1.mid H7.out.2.2.1 gr8 (.cells #[.int .i64 (q : Nat)] 3); rw [← HP9.out] at Z8; have HZ8 := Hid.mk' Z8; have H8 := Hid.mk' (And.intro own8 gr8); have cz : (w8.alloc (.cells #[.int .i64 (q : Nat)] 3)).cell? ⟨w8.heap.size, 0, none⟩ = some (.int .i64 (q : Nat)) := (by rw [cell_of_heap (heap_alloc_new w8 _)]; rfl); have hz8 := Z8.2; clear own8 gr8 at8 Z8 hW7 r0 r1 r2 r3 r4 r5 f5) | (at_builtin; refine wpList_append_zz rfl (.tmp 68) (.tmp 70) rfl w.heap.size u7 P9 rfl HZ8.out.1 w8.heap.size 1 (.int .i64 (q : Nat)) rfl cz rfl hl9 hz8 ?_; intro v9 w9 own9 gr9; have H9 := Hid.mk' (And.intro own9 gr9); clear own9 gr9 cz))
            have own9 := H9.out.1
            rw [HP9.out] at own9
            obtain ⟨y1, y2⟩ := HDJ.out.2.1.two H7.out.2.2.1 (d := (ddk, ddt, (ddx, ddn, ddu), pv, lv, cv)) (e := patC ce eA) (by rw [HPA.out]; exact ⟨HTJ.out.2.1, HTJ.out.2.2.1, HTJ.out.2.2.2.1, H7.out.2.2.2⟩) H8.out.1 H8.out.2 own9 H9.out.2
            have nT9 : w9.heap[T]? = some (.cells #[.int .i64 3, .string dt, .int .i64 dx, .int .i64 dn, .string du, .int .i64 cn, .slice sp sl sc] 33 (0, 0)) := (y2 T _ HNT.out).trans HNT.out
            have HX : Hid (q + 1 = p + (j + 1) ∧ DoS w B0 v8 v9 (D' ++ [(ddk, ddt, (ddx, ddn, ddu), pv, lv, cv)]) (don cs (units (F.take k)) 0 ++ don cs (List.replicate (j + 1) (.keep eA)) p) w9 ∧ (D' ++ [(ddk, ddt, (ddx, ddn, ddu), pv, lv, cv)]).length = D.length + (j + 1) ∧ RN w9 (.slice sp sl sc) eA) := ⟨by have := HDJ.out.1; omega, by rw [HTJ.out.1, ← List.append_assoc]; exact y1, by rw [List.length_append, HDJ.out.2.2.1]; simp; omega, HRW.out w9 y1.below⟩
            clear H9 H8 HZ8 H7 HP9 own9 y1 y2 HDJ HNT HBB HTJ HPA
            go_wp2
            go_roundw
            case rel => exact ⟨j + 1, q + 1, _, by omega, by omega, by go_num, by go_num, HX.out, nT9⟩
            case measure => simp [RowKit.intOf]; omega
          · have hljI : ¬ (j : Int) < cn := by omega
            have hjc : j = cn := by omega
            have HX : Hid (q = baseU (units (F.take (k + 1))) ∧ DoS w B0 u6 u7 D' (don cs (units (F.take (k + 1))) 0) wr) := by
              have h1 := HDJ.out
              rw [hjc] at h1
              exact ⟨by rw [HT2.out.2.1]; exact h1.1, by rw [HT2.out.1]; exact h1.2.1⟩
            clear HDJ hjc
            go_wp2
            go_roundw
            case rel => exact ⟨k + 1, q, D', by omega, hq, by go_num, rfl, HX.out.1, HX.out.2⟩
            case measure => simp [RowKit.intOf]; omega
      · -- a delete
        have hc1 := hwe.count (.inr hk1)
        obtain ⟨cn, hcn⟩ : ∃ cn : Nat, e.c = cn := ⟨e.c.toNat, by omega⟩
        have hu : unitsO e = List.replicate cn .del := by rw [unitsO_4 hk1, hcn, Int.toNat_natCast]
        have HT2 : Hid (don cs (units (F.take (k + 1))) 0 = don cs (units (F.take k)) 0 ∧ baseU (units (F.take (k + 1))) = p + cn ∧ p + cn ≤ N) := by
          have := HT.out
          rw [hu, don_dels, baseU_dels, List.append_nil] at this
          exact ⟨this.1, this.2.1, this.2.2.1⟩
        rw [hcn] at h4
        have hpc := HT2.out.2.2
        obtain ⟨ek, et, ⟨ex, en, eu⟩, ec, eA⟩ := e
        simp only [Prod.mk.injEq] at h1 h2 h3 h4 hk1
        obtain ⟨h3, h7, h8⟩ := h3
        subst hk1
        subst h1; subst h2; subst h3; subst h4; subst h7; subst h8
        have HX : Hid (p + cn = baseU (units (F.take (k + 1))) ∧ DoS w B0 u6 u7 D (don cs (units (F.take (k + 1))) 0) W1) := ⟨HT2.out.2.1.symm, by rw [HT2.out.1]; exact HB1.out.2⟩
        clear HT HT2 hwe hfe hke hc1 hcn hu HR HB1
        go_wp2
        go_roundw
        case rel => exact ⟨k + 1, p + cn, D, by omega, hpc, by go_num, by go_num, HX.out.1, HX.out.2⟩
        case measure => simp [RowKit.intOf]; omega
    · have hltI : ¬ (k : Int) < m := by omega
      have hall : F.take k = F := List.take_of_length_le (by rw [HM.out.2.1]; omega)
      have hall' : baseU (units (F.take k)) = baseU (units F) := by rw [hall]
      rw [hall] at HD
      have HB := Hid.mk' HE.out.2.2.1.base
      go_wp2_with fail
      go_loopw [6, 7, 8] (fun o f a' wr => ∃ (q : Nat) (D' : List CV), q ≤ N ∧ a' = .int .i64 q ∧ Hid (p ≤ q ∧ DoS w B0 o f D' (don cs (units F) 0 ++ rst10 cs p (q - p)) wr)) (fun _ _ a' _ => N - (RowKit.intOf a').toNat)
      case atStart => exact ⟨p, D, hp, rfl, Nat.le_refl _, by rw [Nat.sub_self]; show DoS _ _ _ _ _ (_ ++ []) _; rw [List.append_nil]; exact HD.out.2⟩
      case round =>
        obtain ⟨q, D', hq, rfl, HDJ⟩ := hrel
        by_cases hqN : q < N
        · have hqI : (q : Int) < N := by omega
          have hq0 : (0 : Int) ≤ (q : Int) := by omega
          obtain ⟨dd, hdd⟩ : ∃ d, D0[q]? = some d := ⟨_, List.getElem?_eq_getElem (by rw [HM.out.2.2.1]; exact hqN)⟩
          obtain ⟨ce, hce, hrr⟩ := forall2_get HE.out.2.1 q dd hdd
          obtain ⟨b2, off2, rfl, hinC⟩ := HC.out (by intro e; rw [e] at hdd; simp at hdd)
          obtain ⟨x0, x1, x2, x3, x4, x5⟩ := cellsC_get D0 q dd hdd
          have hbw := HDJ.out.2.below
          have c0 := (hinC.below hbw) _ _ x0
          have c1 := (hinC.below hbw) _ _ x1
          have c2 := (hinC.below hbw) _ _ x2
          have c3 := (hinC.below hbw) _ _ x3
          have c4 := (hinC.below hbw) _ _ x4
          have c5 := (hinC.below hbw) _ _ x5
          simp only [← Nat.add_assoc] at c0 c1 c2 c3 c4 c5
          have hlen : D'.length ≤ 33554431 := by
            have h1 := HDJ.out.2.len
            have h2 := HE.out.2.2.1.lr
            have h3 := HM.out.2.2.2
            have h4 := HE.out.2.2.1.lc
            rw [List.length_append, don_len] at h1
            have h5 : (rst10 cs p (q - p)).length = q - p := by unfold rst10; rw [List.length_map, List.length_range]
            omega
          have HTJ : Hid (rst10 cs p (q + 1 - p) = rst10 cs p (q - p) ++ [(ce, (q : Int))] ∧ p ≤ q + 1) := by
            have h1 := HDJ.out.1
            refine ⟨?_, by omega⟩
            rw [show q + 1 - p = (q - p) + 1 by omega, rst_succ, show p + (q - p) = q by omega, atC_of hce]
          obtain ⟨W7, hW7⟩ : ∃ W, W = wr.alloc (.cells (ceC dd) 175) := ⟨_, rfl⟩
          have b7 : Below wr.heap.size wr W7 := by rw [hW7]; exact (Below.refl _ _).alloc (Nat.le_refl _) _
          have n7 : W7.heap[wr.heap.size]? = some (.cells (ceC dd) 175 (0, 0)) := by rw [hW7]; exact heap_alloc_new wr _
          obtain ⟨t1, t2⟩ := HDJ.out.2.top b7
          have H7 : Hid (OwnC W7 w.heap.size u6 D' ∧ W7.heap[wr.heap.size]? = some (.cells (ceC dd) 175 (0, 0)) ∧ Below wr.heap.size wr W7) := ⟨t1, n7, b7⟩
          have HRR : Hid (dd.1 = ce.1 ∧ dd.2.1 = ce.2.1 ∧ dd.2.2.1 = ce.2.2.1 ∧ OwnA W7 B0 (slV dd.2.2.2) ce.2.2.2) := ⟨hrr.1, hrr.2.1, hrr.2.2.1, owns_below (owns_below hrr.2.2.2 hbw) b7⟩
          have hl7 : D'.length + 1 ≤ 33554432 := by omega
          have hl9 : ((don cs (units F) 0 ++ rst10 cs p (q - p)).map fun x => Value.int .i64 x.2).length ≤ 33554432 := by rw [List.length_map, ← HDJ.out.2.len]; omega
          obtain ⟨P9, hP9⟩ : ∃ P, P = (don cs (units F) 0 ++ rst10 cs p (q - p)).map fun x => Value.int .i64 x.2 := ⟨_, rfl⟩
          have HP9 : Hid (P9 = (don cs (units F) 0 ++ rst10 cs p (q - p)).map fun x => Value.int .i64 x.2) := hP9
          rw [← hP9] at hl9
          clear hP9 x0 x1 x2 x3 x4 x5 hdd hce hrr hinC hbw b7 n7 t1 hlen
          obtain ⟨ddk, ddt, ⟨ddx, ddn, ddu⟩, ddp, ddl, ddc⟩ := dd
          simp only [slV, ceC] at c0 c1 c2 c3 c4 c5 H7 HRR hW7
          go_wp2_with (first | (at_builtin; rw [← hW7]; refine wpList_append_cellsx rfl (.tmp 81) (.tmp 86) rfl w.heap.size u6 D' rfl H7.out.1 wr.heap.size (ddk, ddt, (ddx, ddn, ddu), ddp, ddl, ddc) rfl H7.out.2.1 hl7 t2 ?_; intro v8 w8 own8 gr8 at8; have Z8 := HDJ.out.2.mid H7.out.2.2 gr8 (.cells #[.int .i64 (q : Nat)] 3); rw [← HP9.out] at Z8; have HZ8 := Hid.mk' Z8; have H8 := Hid.mk' (And.intro own8 gr8); have cz : (w8.alloc (.cells #[.int .i64 (q : Nat)] 3)).cell? ⟨w8.heap.size, 0, none⟩ = some (.int .i64 (q : Nat)) := (by rw [cell_of_heap (heap_alloc_new w8 _)]; rfl); have hz8 := Z8.2; clear own8 gr8 at8 Z8 hW7 c0 c1 c2 c3 c4 c5) | (at_builtin; refine wpList_append_zz rfl (.tmp 88) (.tmp 90) rfl w.heap.size u7 P9 rfl HZ8.out.1 w8.heap.size 1 (.int .i64 (q : Nat)) rfl cz rfl hl9 hz8 ?_; intro v9 w9 own9 gr9; have H9 := Hid.mk' (And.intro own9 gr9); clear own9 gr9 cz))
          have own9 := H9.out.1
          rw [HP9.out] at own9
          obtain ⟨y1, y2⟩ := HDJ.out.2.two H7.out.2.2 HRR.out H8.out.1 H8.out.2 own9 H9.out.2
          have HX : Hid (p ≤ q + 1 ∧ DoS w B0 v8 v9 (D' ++ [(ddk, ddt, (ddx, ddn, ddu), ddp, ddl, ddc)]) (don cs (units F) 0 ++ rst10 cs p (q + 1 - p)) w9) := ⟨HTJ.out.2, by rw [HTJ.out.1, ← List.append_assoc]; exact y1⟩
          clear H9 H8 HZ8 H7 HP9 own9 y1 y2 HDJ HTJ HRR
          go_wp2
          go_roundw
          case rel => exact ⟨q + 1, _, by omega, by go_num, HX.out⟩
          case measure => simp [RowKit.intOf]; omega
        · have hqI : ¬ (q : Int) < N := by omega
          have HX : Hid (DoS w B0 u6 u7 D' (doneL cs (units F)) wr) := by
            have h1 := HDJ.out.2
            have h2 := HD.out.1
            have h3 := HM.out.2.2.2
            have h4 : q - p = cs.length - baseU (units F) := by omega
            rw [h4, h2] at h1
            exact h1
          obtain ⟨p6, c6, e6⟩ := own_slice HX.out.own
          obtain ⟨p7, c7, e7⟩ := own_slice HX.out.zs
          obtain ⟨n6, hn6⟩ : ∃ n, D'.length = n := ⟨_, rfl⟩
          obtain ⟨n7, hn7⟩ : ∃ n, ((doneL cs (units F)).map fun x => Value.int .i64 x.2).length = n := ⟨_, rfl⟩
          rw [hn6] at e6
          rw [hn7] at e7
          subst e6
          subst e7
          clear HDJ hn6 hn7
          go_wp2
          go_ret2
          exact ⟨_, _, rfl, D', HX.out⟩
end Go.Proofs.YtplnojapnaaakaaGreatDoor

/- What vellumref10.Refuse and Apply answer. -/
namespace Go.Proofs.YtplnojapnaaakaaGreatDoor
open Go Go.RowKit Go.Lib
set_option linter.unusedVariables false
set_option maxHeartbeats 2000000 in
set_option maxRecDepth 100000 in
theorem refuse10_any (v u : Value) (E F : List Op5) (w : World) (hv : ReO w v E) (hu : ReO w u F) (h : ApR E F) :
    Calls Tryz.prog 80 #[v, u] w fun r w' => r = .returned (.int .i64 (chkE10 E F)) ∧ Below w.heap.size w w' := by
  have hl1 := h.lE
  have hl2 := h.lF
  have hs1 := h.sE
  have hs2 := h.sF
  unfold Fits8 at hs1 hs2
  have c1 := isDoc10_any v E w hv (by omega)
  have c2 : Hid (∀ W, Below w.heap.size w W → Calls Tryz.prog 114 #[v] W fun r w' => r = .returned (.int .i64 (sumR E)) ∧ Below W.heap.size W w') := fun W b => result10_any v E W (hv.below b) h.wE (fun o ho => (h.fE o ho).t) (by omega) (by omega)
  have c3 : Hid (∀ W, Below w.heap.size w W → Calls Tryz.prog 115 #[u] W fun r w' => r = .returned (.int .i64 (sumB F)) ∧ Below W.heap.size W w') := fun W b => base10_any u F W (hu.below b) h.wF (by omega) (by omega)
  have c4 : Hid (∀ W, Below w.heap.size w W → Calls Tryz.prog 114 #[u] W fun r w' => r = .returned (.int .i64 (sumR F)) ∧ Below W.heap.size W w') := fun W b => result10_any u F W (hu.below b) h.wF (fun o ho => (h.fF o ho).t) (by omega) (by omega)
  have n1 := sums_nn h.wE
  have n2 := sums_nn h.wF
  have hq := docB_sum h.wE
  obtain ⟨p1, q1, k1, rfl⟩ : ∃ p l c, v = .slice p l c := by obtain ⟨D, ⟨p, c, e, _⟩, _⟩ := hv; exact ⟨p, _, c, e⟩
  obtain ⟨p2, q2, k2, rfl⟩ : ∃ p l c, u = .slice p l c := by obtain ⟨D, ⟨p, c, e, _⟩, _⟩ := hu; exact ⟨p, _, c, e⟩
  have HC : Hid (chkE10 E F = if sumB E = 0 then lenE10 (sumR E) (sumB F) (sumR F) else 9) := rfl
  obtain ⟨rE, hrE⟩ : ∃ x, sumR E = x := ⟨_, rfl⟩
  obtain ⟨bF, hbF⟩ : ∃ x, sumB F = x := ⟨_, rfl⟩
  obtain ⟨rF, hrF⟩ : ∃ x, sumR F = x := ⟨_, rfl⟩
  rw [hrE] at c2 hs1 n1
  rw [hbF] at c3 hs2 n2
  rw [hrF] at c4 hs2 n2
  rw [hrE, hbF, hrF] at HC
  clear h hv hu hrE hbF hrF hl1 hl2
  by_cases h0 : sumB E = 0
  · rw [hq.mpr h0] at c1
    rw [HC.out, if_pos h0]
    obtain ⟨lz, hlz⟩ : ∃ z : Int, ((lenE10 rE bF rF : Nat) : Int) = z := ⟨_, rfl⟩
    have HL : Hid (((lenE10 rE bF rF : Nat) : Int) = lz) := hlz
    rw [hlz]
    clear HC hq h0 hlz
    go_enter Tryz.func80, Tryz.ntmps80
    go_wp2_with fail
    refine c1.mono ?_; rintro r w1 ⟨rfl, b1⟩
    have d2 := c2.out w1 b1
    clear c1
    go_wp2_with fail
    refine d2.mono ?_; rintro r w2 ⟨rfl, b2'⟩
    have b2 := b1.trans (b2'.mono b1.size)
    have d3 := c3.out w2 b2
    clear d2 b2' b1 c2
    go_wp2_with fail
    refine d3.mono ?_; rintro r w3 ⟨rfl, b3'⟩
    have b3 := b2.trans (b3'.mono b2.size)
    clear d3 b3' b2
    by_cases h1 : rE < bF
    · have h1' : bF > rE := h1
      have hz : lz = 12 := by rw [← HL.out]; unfold lenE10; rw [if_pos h1]; rfl
      have HZ := Hid.mk' hz
      clear hz HL
      go_wp2
      go_ret
      exact ⟨by rw [HZ.out]; rfl, b3⟩
    · have h1' : ¬ bF > rE := h1
      have d4 := c3.out w3 b3
      go_wp2_with fail
      refine d4.mono ?_; rintro r w4 ⟨rfl, b4'⟩
      have b4 := b3.trans (b4'.mono b3.size)
      have d5 := c4.out w4 b4
      clear d4 b4' b3 c3 c4
      go_wp2_with fail
      refine d5.mono ?_; rintro r w5 ⟨rfl, b5'⟩
      have b5 := b4.trans (b5'.mono b4.size)
      clear d5 b5' b4
      have z1 : IntKind.i64.wrap (rE - bF) = rE - bF := by rw [IntKind.wrap_i64]; omega
      have z2 : IntKind.i64.wrap (rE - bF + rF) = rE - bF + rF := by rw [IntKind.wrap_i64]; omega
      by_cases h2 : 1099511627776 < rE - bF + rF
      · have h2' : rE - bF + rF > 1099511627776 := h2
        have hz : lz = 11 := by rw [← HL.out]; unfold lenE10; rw [if_neg (by omega), if_pos (by omega)]; rfl
        have HZ := Hid.mk' hz
        clear hz HL
        go_wp2
        go_ret
        exact ⟨by rw [HZ.out]; rfl, b5⟩
      · have h2' : ¬ rE - bF + rF > 1099511627776 := h2
        have hz : lz = 0 := by rw [← HL.out]; unfold lenE10; rw [if_neg (by omega), if_neg (by omega)]; rfl
        have HZ := Hid.mk' hz
        clear hz HL
        go_wp2
        go_ret
        exact ⟨by rw [HZ.out]; rfl, b5⟩
  · have hf : docB E = false := by
      cases hd : docB E with
      | false => rfl
      | true => exact absurd (hq.mp hd) h0
    rw [hf] at c1
    rw [HC.out, if_neg h0]
    clear HC hq h0 hf c2 c3 c4
    go_enter Tryz.func80, Tryz.ntmps80
    go_wp2_with fail
    refine c1.mono ?_; rintro r w1 ⟨rfl, b1⟩
    clear c1
    go_wp2
    go_ret
    exact ⟨rfl, b1⟩
/-- What the document's Apply answers. -/
def ApA (w w' : World) (E F : List Op5) (lv : Value) (n : Int) : Prop :=
  n = chkE10 E F ∧ (chkE10 E F = 0 → ∀ xs, edit (units F) (cellsL E) = some xs → ∃ D', OwnO w' w.heap.size lv D' ∧ ReOw w' w.heap.size D' (docOf xs)) ∧ (chkE10 E F ≠ 0 → lv = .slice none 0 0)
set_option maxHeartbeats 2000000 in
set_option maxRecDepth 100000 in
theorem apply10R_any (v u : Value) (E F : List Op5) (w : World) (hv : ReO w v E) (hu : ReO w u F) (h : ApR E F) :
    Calls Tryz.prog 34 #[v, u] w fun r w' => ∃ lv n, r = .returned (.tuple #[lv, .int .i64 n]) ∧ ApA w w' E F lv n ∧ Below w.heap.size w w' := by
  have c1 := refuse10_any v u E F w hv hu h
  have HV : Hid (ReO w v E ∧ ReO w u F ∧ ApR E F) := ⟨hv, hu, h⟩
  obtain ⟨p1, q1, k1, rfl⟩ : ∃ p l c, v = .slice p l c := by obtain ⟨D, ⟨p, c, e, _⟩, _⟩ := hv; exact ⟨p, _, c, e⟩
  obtain ⟨p2, q2, k2, rfl⟩ : ∃ p l c, u = .slice p l c := by obtain ⟨D, ⟨p, c, e, _⟩, _⟩ := hu; exact ⟨p, _, c, e⟩
  obtain ⟨e, he⟩ : ∃ e, chkE10 E F = e := ⟨_, rfl⟩
  rw [he] at c1
  have HK : Hid (chkE10 E F = e) := he
  clear hv hu h he
  cases e with
  | succ e =>
    obtain ⟨z, hz⟩ : ∃ z : Int, ((e + 1 : Nat) : Int) = z := ⟨_, rfl⟩
    have hz0 : (z != 0) = true := by rw [bne_iff_ne]; omega
    have HZ : Hid (((e + 1 : Nat) : Int) = z) := hz
    rw [hz] at c1
    clear hz
    go_enter Tryz.func34, Tryz.ntmps34
    go_wp2_with fail
    refine c1.mono ?_; rintro r w1 ⟨rfl, b1⟩
    clear c1
    go_wp2
    go_ret2
    exact ⟨_, _, rfl, ⟨by rw [HK.out]; exact HZ.out.symm, fun h => (by rw [HK.out] at h; cases h), fun _ => rfl⟩, b1⟩
  | zero =>
    obtain ⟨hd, hD, xs, hx⟩ := HV.out.2.2.don HK.out
    obtain ⟨hcel, hxl⟩ := HV.out.2.2.cel HK.out hx
    have hdx := done_edit hD.base hx
    have hIns : ∀ o ∈ E, Ins o := fun o ho => wel_ins10 (HV.out.2.2.wE o ho) (hd o ho)
    have HX : Hid (DonR (cellsL E) F 524288 524288 ∧ edit (units F) (cellsL E) = some xs ∧ CelR xs ∧ (doneL (cellsL E) (units F)).map Prod.fst = xs) := ⟨hD, hx, hcel, hdx⟩
    have c2 : Hid (∀ W, Below w.heap.size w W → Calls Tryz.prog 82 #[.slice p1 q1 k1] W fun r w' => ∃ v', r = .returned v' ∧ (∃ D, OwnC w' W.heap.size v' D ∧ AreO w' W.heap.size D (cellsL E)) ∧ Below W.heap.size W w') := fun W b => cells10_any _ E W (HV.out.1.below b) hIns HV.out.2.2.fE (by have := HV.out.2.2.lE; omega) hD.lc
    clear hd hD hx hcel hxl hdx hIns
    go_enter Tryz.func34, Tryz.ntmps34
    go_wp2_with fail
    refine c1.mono ?_; rintro r w1 ⟨rfl, b1⟩
    have d2 := c2.out w1 b1
    clear c1 c2
    go_wp2_with fail
    refine d2.mono ?_; rintro r w2 ⟨vc, rfl, ⟨DC, oc, ac⟩, b2'⟩
    have b2 := b1.trans (b2'.mono b1.size)
    obtain ⟨pc, cc, ec⟩ := own_slice oc
    have c3 := done10_any (KA := 524288) (KP := 524288) vc (.slice p2 q2 k2) w1.heap.size DC (cellsL E) F w2 b2'.size (own_rowC oc) ac (HV.out.2.1.below b2) HX.out.1
    obtain ⟨lc, hlc⟩ : ∃ n, DC.length = n := ⟨_, rfl⟩
    rw [hlc] at ec
    subst ec
    clear d2 oc ac b2' hlc
    go_wp2_with fail
    refine c3.mono ?_; rintro r w3 ⟨v1, v2, rfl, D, hds⟩
    have b3 := b2.trans (hds.below.mono b2.size)
    have hare := hds.are
    rw [HX.out.2.2.2] at hare
    have c4 := doc10_any v1 D xs w3 (own_rowC hds.own) hare.are HX.out.2.2.1
    obtain ⟨p6, c6, e6⟩ := own_slice hds.own
    obtain ⟨p7, c7, e7⟩ := own_slice hds.zs
    obtain ⟨n6, hn6⟩ : ∃ n, D.length = n := ⟨_, rfl⟩
    obtain ⟨n7, hn7⟩ : ∃ n, ((doneL (cellsL E) (units F)).map fun x => Value.int .i64 x.2).length = n := ⟨_, rfl⟩
    rw [hn6] at e6
    rw [hn7] at e7
    subst e6
    subst e7
    clear c3 hds hare hn6 hn7
    go_wp2_with fail
    refine c4.mono ?_; rintro r w4 ⟨lv, rfl, ⟨D', o4, a4⟩, b4'⟩
    have b4 := b3.trans (b4'.mono b3.size)
    have HF : Hid (ApA w w4 E F lv 0) := by
      refine ⟨by rw [HK.out]; rfl, fun _ ys hy => ?_, fun h => absurd HK.out h⟩
      obtain rfl : ys = xs := Option.some.inj (hy.symm.trans HX.out.2.1)
      exact ⟨D', own_weaken o4 b3.size, a4.weaken b3.size⟩
    obtain ⟨p8, c8, e8⟩ := own_slice o4
    obtain ⟨n8, hn8⟩ : ∃ n, D'.length = n := ⟨_, rfl⟩
    rw [hn8] at e8
    subst e8
    clear c4 o4 a4 b4' hn8
    go_wp2
    go_ret2
    exact ⟨_, _, rfl, HF.out, b4⟩
end Go.Proofs.YtplnojapnaaakaaGreatDoor

/- Of all lists of operations vellumlaw10.ApplyPlays answers true. -/
namespace Go.Proofs.YtplnojapnaaakaaGreatDoor
open Go Go.RowKit Go.Lib
set_option linter.unusedVariables false
theorem push_at10 {p : List A2 → Prop} {P : List Op5} {o : Op5} (h : ∀ x ∈ P, p x.A) (ho : p o.A) : ∀ x ∈ pushL P o, p x.A := by
  rcases List.eq_nil_or_concat P with rfl | ⟨F, x, rfl⟩
  · rw [push_nil]; intro y hy; rw [List.mem_singleton.1 hy]; exact ho
  · rw [List.concat_eq_append] at h ⊢
    by_cases hj : x.k ≠ o.k ∨ o.k = 2 ∨ x.A ≠ o.A
    · rw [push_apart hj]
      intro y hy
      rcases List.mem_append.1 hy with hy | hy
      · exact h y hy
      · rw [List.mem_singleton.1 hy]; exact ho
    · rw [push_join hj]
      intro y hy
      rcases List.mem_append.1 hy with hy | hy
      · exact h y (List.mem_append_left _ hy)
      · rw [List.mem_singleton.1 hy]; exact h x (List.mem_append_right _ (List.mem_singleton.2 rfl))
theorem fold_at10 {p : List A2 → Prop} : ∀ (G : List Op5) {P : List Op5}, (∀ x ∈ P, p x.A) → (∀ o ∈ G, p o.A) → ∀ x ∈ G.foldl pushL P, p x.A
  | [], _, h, _ => h
  | o :: G, P, h, hG => fold_at10 G (push_at10 h (hG o (List.mem_cons_self ..))) (fun x hx => hG x (List.mem_cons_of_mem _ hx))
theorem flush_at10 {p : List A2 → Prop} {P G : List Op5} {g : Int} (h : ∀ x ∈ P, p x.A) (hG : ∀ o ∈ G, p o.A) (h0 : p []) : ∀ x ∈ flushL P G g, p x.A := by
  unfold flushL
  split
  · exact push_at10 (fold_at10 G h hG) h0
  · exact fold_at10 G h hG
theorem run_at10 {p : List A2 → Prop} (h0 : p []) : ∀ (E : List Op5) (s : List Op5 × List Op5 × Int), (∀ x ∈ s.1, p x.A) → (∀ x ∈ s.2.1, p x.A) → (∀ o ∈ E, p o.A) → (∀ x ∈ (E.foldl stepC s).1, p x.A) ∧ ∀ x ∈ (E.foldl stepC s).2.1, p x.A
  | [], _, h1, h2, _ => ⟨h1, h2⟩
  | o :: E, s, h1, h2, hE => by
    have ho := hE o (List.mem_cons_self ..)
    have key : (∀ x ∈ (stepC s o).1, p x.A) ∧ ∀ x ∈ (stepC s o).2.1, p x.A := by
      unfold stepC
      split
      · exact ⟨h1, fun x hx => by rcases List.mem_append.1 hx with hx | hx; exact h2 x hx; rw [List.mem_singleton.1 hx]; exact ho⟩
      · split
        · exact ⟨h1, h2⟩
        · exact ⟨push_at10 (flush_at10 h1 h2 h0) ho, fun x hx => (by cases hx)⟩
    exact run_at10 h0 E (stepC s o) key.1 key.2 (fun x hx => hE x (List.mem_cons_of_mem _ hx))
theorem canon_at10 {p : List A2 → Prop} {E : List Op5} (h0 : p []) (h : ∀ o ∈ E, p o.A) : ∀ x ∈ canonL E, p x.A := by
  obtain ⟨h1, h2⟩ := run_at10 h0 E ([], [], 0) (fun x hx => (by cases hx)) (fun x hx => (by cases hx)) h
  have h3 := flush_at10 (g := (runC E).2.2) (P := (runC E).1) (G := (runC E).2.1) h1 h2 h0
  intro x hx
  refine h3 x ?_
  show x ∈ _
  unfold canonL trimL at hx
  split at hx
  · split at hx
    · exact (List.dropLast_subset _) hx
    · exact hx
  · exact hx
theorem made10 {A : List Op5} (h : (ofE 0 0 A).2 = 0) (hF : FitL A) (hh : txtS A ≤ 6000 ∧ A.length ≤ 6000 ∧ ∀ o ∈ A, o.A.length ≤ 6000) : Rst (canonL A) 6000 6000 6000 := by
  obtain ⟨h1, h2, h3⟩ := hh
  have ok := okE_of h hF (by omega) (by omega)
  obtain ⟨k1, k2, k3⟩ := canon_ok ok
  obtain ⟨_, c2, c3, _⟩ := canon_spec ok.wel
  exact ⟨k1.good, k1.fit, by omega, canon_at10 (p := fun l => l.length ≤ 6000) (by simp) h3, by omega, c2, c3, k1.base, k1.res⟩
theorem rst_two10 {E F : List Op5} (hE : Rst E 6000 6000 6000) (hF : Rst F 6000 6000 6000) : Two10 E F 6000 6000 6000 := ⟨hE, hF, by omega, by omega, by omega⟩
theorem rst_ap10 {E F : List Op5} (hE : Rst E 6000 6000 6000) (hF : Rst F 6000 6000 6000) : ApR E F := by
  have a1 := hE.txt
  have a2 := hF.txt
  have a3 := hE.len
  have a4 := hF.len
  exact ⟨hE.good, hF.good, fitA_all hE.fit (by omega), fitA_all hF.fit (by omega), by omega, by omega, ⟨hE.base, hE.res⟩, ⟨hF.base, hF.res⟩, by omega, fun o ho => by have := hE.attr o ho; omega, fun o ho => by have := hF.attr o ho; omega⟩
theorem rst_dle10 {E : List Op5} (hE : Rst E 6000 6000 6000) {W : World} {B1 B2 : Nat} {v : Value} (h : DelV W B1 B2 v E) : DlE W B1 B2 v E := by
  have a1 := hE.txt
  have a3 := hE.len
  exact ⟨h, hE.good, hE.fit, by omega, by omega, ⟨hE.base, hE.res⟩⟩
theorem chk_le10 (E F : List Op5) : chkE10 E F ≤ 19 := by
  unfold chkE10 lenE10
  repeat' split
  all_goals omega
theorem behind_len10 {E F : List Op5} {N T K : Nat} (h : Two10 E F N T K) (hd : DocL E) {xs : List C5} (hx : edit (units F) (cellsL E) = some xs) (hs : (xs.length : Int) ≤ 1099511627776) : (docOf xs).length ≤ E.length + F.length := by
  obtain ⟨k, hr, h0⟩ := end10 h
  have ht := h.t
  have hn := h.n
  have ok := gat_okE h.e h.f h.t h.n h.k hd hx hs hr
  have he := gat_end h.e h.f (by omega) (by omega) hd hx hr h0
  obtain ⟨k1, _, k3⟩ := canon_ok ok
  rw [he] at k3
  have hg := gat_le E F k
  have hk := run_len h.e h.f (by omega) (by omega) k hr
  omega
end Go.Proofs.YtplnojapnaaakaaGreatDoor

/- Of all lists of operations vellumlaw10.ApplyPlays answers true. -/
namespace Go.Proofs.YtplnojapnaaakaaGreatDoor
open Go Go.RowKit Go.Lib
set_option linter.unusedVariables false
attribute [local go_sem] Oper.semAt_some
set_option maxHeartbeats 16000000 in
set_option maxRecDepth 100000 in
theorem applyPlays_any {I : List Nat} {a : Nat → Addr} (va vb : Value) (A B : List Op5) (w : World) (hJ : ∀ i ∈ IR8, i ∈ I) (hS : Std I a w) (hN : Sent a w) (ra : ReO w va A) (rb : ReO w vb B) (fA : FitL A) (fB : FitL B) (lA : A.length + 1 ≤ 1048576) (tA : txtS A ≤ 1048576) (lB : B.length + 1 ≤ 1048576) (tB : txtS B ≤ 1048576) :
    Calls Tryz.prog 7 #[va, vb] w fun r w' => r = .returned (.bool true) ∧ Below w.heap.size w w' := by
  obtain ⟨hI, h11⟩ := ir8 hJ
  have cL := lives10_any w hI h11 hS
  have cB : Hid (∀ W, Below w.heap.size w W → Calls Tryz.prog 32 #[va, vb] W fun r w' => ∃ v1 v2 o1 o2 bv, r = .returned (.tuple #[v1, v2, o1, o2, bv]) ∧ (bv = .bool false ∨ bv = .bool true ∧ Bo10 w' W.heap.size A B v1 v2 o1 o2) ∧ Below W.heap.size W w') := fun W hW => both10_any va vb A B W hI (hS.below hW) (ra.below hW) (rb.below hW) fA fB (by omega) (by omega) (by omega) (by omega)
  have cN : Hid (∀ e, e ≤ 19 → ∀ W, Below w.heap.size w W → Calls Tryz.prog 14 #[errOf a e] W fun r w' => r = .returned (.int .i64 e) ∧ Below W.heap.size W w') := fun e he W hW => num_of (hN.below hW) e he
  have HS : Hid ((∀ W, Below w.heap.size w W → Std I a W) ∧ (∀ i ∈ IxO, i ∈ I) ∧ 11 ∈ I) := ⟨fun W hW => hS.below hW, hI, h11⟩
  have HF : Hid (FitL A ∧ FitL B) := ⟨fA, fB⟩
  obtain ⟨D0, ⟨p, cap, rfl, _⟩, _⟩ := id ra
  obtain ⟨D1, ⟨p1, cap1, rfl, _⟩, _⟩ := id rb
  clear hI h11 hJ hS hN ra rb fA fB lA tA lB tB
  go_enter Tryz.func7, Tryz.ntmps7
  go_wp2_with fail
  refine cL.mono ?_; rintro r wz ⟨rfl, hbz⟩
  have cb := cB.out wz hbz
  clear cL cB
  go_wp2_with fail
  refine cb.mono ?_; rintro r w2 ⟨v1, v2, o1, o2, bv, rfl, hbo, b2⟩
  have hb2 := hbz.trans (b2.mono hbz.size)
  clear cb hbz
  rcases hbo with rfl | ⟨rfl, hbo⟩
  · go_wp2
    go_ret
    exact ⟨rfl, hb2⟩
  obtain ⟨qa, rfl⟩ : ∃ q, v1 = .pointer (some ⟨q, 0, none⟩) := by obtain ⟨q, _, _, e, _⟩ := hbo.d1; exact ⟨q, e⟩
  obtain ⟨qb, rfl⟩ : ∃ q, v2 = .pointer (some ⟨q, 0, none⟩) := by obtain ⟨q, _, _, e, _⟩ := hbo.d2; exact ⟨q, e⟩
  obtain ⟨pa, na, ca, rfl⟩ : ∃ p n c, o1 = .slice p n c := by obtain ⟨D, ⟨p, c, e, _⟩, _⟩ := hbo.r1; exact ⟨p, _, c, e⟩
  obtain ⟨pb, nb, cb, rfl⟩ : ∃ p n c, o2 = .slice p n c := by obtain ⟨D, ⟨p, c, e, _⟩, _⟩ := hbo.r2; exact ⟨p, _, c, e⟩
  have rE := made10 hbo.gE HF.out.1 hbo.lE
  have rF := made10 hbo.gF HF.out.2 hbo.lF
  obtain ⟨d1, d2, r1, r2⟩ := And.intro hbo.d1 (And.intro hbo.d2 (And.intro hbo.r1 hbo.r2))
  clear hbo b2
  generalize canonL A = E at rE d1 r1
  generalize canonL B = F at rF d2 r2
  have HR : Hid (Rst E 6000 6000 6000 ∧ Rst F 6000 6000 6000) := ⟨rE, rF⟩
  have HD : Hid (∀ W, Below w2.heap.size w2 W → DlE W wz.heap.size wz.heap.size (.pointer (some ⟨qa, 0, none⟩)) E ∧ DlE W wz.heap.size wz.heap.size (.pointer (some ⟨qb, 0, none⟩)) F ∧ ReO W (.slice pa na ca) E ∧ ReO W (.slice pb nb cb) F) := fun W b => ⟨rst_dle10 rE (d1.below b), rst_dle10 rF (d2.below b), r1.below b, r2.below b⟩
  have cI : Hid (∀ W W', Below w.heap.size w W → Below w2.heap.size w2 W' → Below W.heap.size W W' → True) := fun _ _ _ _ _ => trivial
  have cM : Hid (∀ W, Below w2.heap.size w2 W → Calls Tryz.prog 30 #[.pointer (some ⟨qa, 0, none⟩), .slice pa na ca] W fun r w' => r = .returned (.bool true) ∧ Below W.heap.size W w') := fun W b => by
    have hl := rE.len
    exact is7_any _ _ E W (HD.out W b).1.d rE.good (fun o ho => by have := rE.attr o ho; omega) (by omega) (HD.out W b).2.2.1
  have cK : Hid (∀ W, Below w2.heap.size w2 W → Calls Tryz.prog 30 #[.pointer (some ⟨qb, 0, none⟩), .slice pb nb cb] W fun r w' => r = .returned (.bool true) ∧ Below W.heap.size W w') := fun W b => by
    have hl := rF.len
    exact is7_any _ _ F W (HD.out W b).2.1.d rF.good (fun o ho => by have := rF.attr o ho; omega) (by omega) (HD.out W b).2.2.2
  have cG : Hid (∀ W, Below w.heap.size w W → Below w2.heap.size w2 W → Calls Tryz.prog 35 #[.pointer (some ⟨qa, 0, none⟩), .pointer (some ⟨qb, 0, none⟩)] W fun r w' => r = .returned (.bool (decide (chkE10 E F = 0))) ∧ Below W.heap.size W w') := fun W b b' => fits10_any _ _ E F W (HS.out.1 W b) (HS.out.2.1 8 (by decide)) (HS.out.2.1 10 (by decide)) HS.out.2.2 (HD.out W b').1 (HD.out W b').2.1
  have cH : Hid (∀ W, Below w.heap.size w W → Below w2.heap.size w2 W → Calls Tryz.prog 36 #[.pointer (some ⟨qa, 0, none⟩), .pointer (some ⟨qb, 0, none⟩)] W fun r w' => ∃ bv, r = .returned (.tuple #[bv, errOf a (chkE10 E F)]) ∧ (chkE10 E F ≠ 0 → bv = .bool false) ∧ (∀ xs, chkE10 E F = 0 → edit (units F) (cellsL E) = some xs → bv = .bool (!decide (E = docOf xs))) ∧ Below W.heap.size W w') := fun W b b' => changes10_any _ _ E F W HS.out.2.1 HS.out.2.2 (HS.out.1 W b) (HD.out W b').1 (HD.out W b').2.1 (rst_two10 rE rF) (by have h1 := rE.len; have h2 := rF.len; omega)
  have cW : Hid (∀ W, Below w2.heap.size w2 W → Calls Tryz.prog 34 #[.slice pa na ca, .slice pb nb cb] W fun r w' => ∃ lv n, r = .returned (.tuple #[lv, .int .i64 n]) ∧ ApA W w' E F lv n ∧ Below W.heap.size W w') := fun W b => apply10R_any _ _ E F W (HD.out W b).2.2.1 (HD.out W b).2.2.2 (rst_ap10 rE rF)
  have c1 := apply10_any _ _ E F w2 HS.out.2.1 HS.out.2.2 (HS.out.1 w2 hb2) (HD.out w2 (Below.refl _ _)).1 (HD.out w2 (Below.refl _ _)).2.1 (rst_two10 rE rF)
  have hch := chk_le10 E F
  clear rE rF d1 d2 r1 r2 HS cI
  have HC : Hid (∀ h0 : chkE10 E F = 0, ∃ xs, edit (units F) (cellsL E) = some xs ∧ (∀ o ∈ docOf xs, opE o = 0) ∧ OkR (docOf xs) ∧ (docOf xs).length ≤ 12000) := fun h0 => by
    obtain ⟨x1, hd1, xs, hxs, x2, x3, x4⟩ := chk10_edit HR.out.1.good HR.out.2.good h0
    have h1 := HR.out.1.len
    have h2 := HR.out.2.len
    obtain ⟨g1, g2⟩ := behind10 (rst_two10 HR.out.1 HR.out.2) (by omega) hd1 hxs (by omega)
    have g3 := behind_len10 (rst_two10 HR.out.1 HR.out.2) hd1 hxs (by omega)
    exact ⟨xs, hxs, g1, g2, by omega⟩
  obtain ⟨er, her⟩ : ∃ x, chkE10 E F = x := ⟨_, rfl⟩
  rw [her] at c1 cG cH HC hch
  have HER : Hid (chkE10 E F = er) := her
  clear her
  go_wp2_with fail
  refine c1.mono ?_; rintro r w3 ⟨dv, rfl, hz, hd, b3⟩
  have hb3 := hb2.trans (b3.mono hb2.size)
  have cw := cW.out w3 b3
  clear c1 cW
  cases er with
  | succ e =>
    obtain rfl := hz (by omega)
    have cn1 := cN.out (e + 1) hch
    obtain ⟨t0, y0, hv0⟩ : ∃ t y, errOf a (e + 1) = .iface t y := ⟨_, _, rfl⟩
    rw [hv0] at cn1 cH ⊢
    clear hd hz hv0 HC cN
    go_wp2_with fail
    refine cw.mono ?_; rintro r w4 ⟨lv, n, rfl, ⟨hn, -, hlv⟩, b4⟩
    obtain rfl := hlv (by rw [HER.out]; omega)
    rw [HER.out] at hn
    have hb4 := hb3.trans (b4.mono hb3.size)
    have h24 := b3.trans (b4.mono b3.size)
    have n1 : (n != n) = false := bne_self_eq_false _
    have n2 : (n != 0) = true := by simp only [bne_iff_ne, ne_eq]; omega
    have n3 : (n == 0) = false := by simp only [beq_eq_false_iff_ne, ne_eq]; omega
    rw [← hn] at cn1
    have cn2 := cn1 w4 hb4
    clear cw hb3 b3 b4 hn
    go_wp2_with fail
    refine cn2.mono ?_; rintro r w5 ⟨rfl, b5⟩
    have hb5 := hb4.trans (b5.mono hb4.size)
    have h25 := h24.trans (b5.mono h24.size)
    have cg := cG.out w5 hb5 h25
    rw [decide_eq_false (by omega)] at cg
    clear cn2 hb4 h24 b5 cG
    go_wp2_with fail
    refine cg.mono ?_; rintro r w6 ⟨rfl, b6⟩
    have hb6 := hb5.trans (b6.mono hb5.size)
    have h26 := h25.trans (b6.mono h25.size)
    have ch := cH.out w6 hb6 h26
    clear cg hb5 h25 b6 cH
    go_wp2_with fail
    refine ch.mono ?_; rintro r w7 ⟨bv, rfl, hbv, -, b7⟩
    obtain rfl := hbv (by omega)
    have hb7 := hb6.trans (b7.mono hb6.size)
    have h27 := h26.trans (b7.mono h26.size)
    have cn3 := cn1 w7 hb7
    clear ch hb6 h26 b7 cn1 hbv
    go_wp2_with fail
    refine cn3.mono ?_; rintro r w8 ⟨rfl, b8⟩
    have hb8 := hb7.trans (b8.mono hb7.size)
    have h28 := h27.trans (b8.mono h27.size)
    have cm := cM.out w8 h28
    clear cn3 hb7 h27 b8 cM
    go_wp2_with fail
    refine cm.mono ?_; rintro r w9 ⟨rfl, b9⟩
    have hb9 := hb8.trans (b9.mono hb8.size)
    have h29 := h28.trans (b9.mono h28.size)
    have ck := cK.out w9 h29
    clear cm hb8 h28 b9 cK
    go_wp2_with fail
    refine ck.mono ?_; rintro r w10 ⟨rfl, b10⟩
    have hb10 := hb9.trans (b10.mono hb9.size)
    clear ck
    go_wp2
    go_ret
    exact ⟨rfl, hb10⟩
  | zero =>
    obtain ⟨xs, x1, x2, x3, x4⟩ := HC.out rfl
    have hd' := hd xs rfl x1
    have cn1 := cN.out 0 hch
    rw [show errOf a 0 = .nilIface from rfl] at cn1 cH ⊢
    obtain ⟨qx, rfl⟩ : ∃ q, dv = .pointer (some ⟨q, 0, none⟩) := by obtain ⟨q, _, _, e, _⟩ := hd'; exact ⟨q, e⟩
    have HX : Hid (edit (units F) (cellsL E) = some xs ∧ (∀ o ∈ docOf xs, opE o = 0) ∧ OkR (docOf xs) ∧ (docOf xs).length ≤ 12000 ∧ DelV w3 w2.heap.size w2.heap.size (.pointer (some ⟨qx, 0, none⟩)) (docOf xs)) := ⟨x1, x2, x3, x4, hd'⟩
    clear hd hz hd' x1 x2 x3 x4 HC cN
    go_wp2_with fail
    refine cw.mono ?_; rintro r w4 ⟨lv, n, rfl, ⟨hn, hlv, -⟩, b4⟩
    rw [HER.out] at hn
    obtain rfl : n = 0 := hn
    obtain ⟨D', k1, k2⟩ := hlv HER.out xs HX.out.1
    obtain ⟨pl, nl, cl, rfl⟩ : ∃ p n c, lv = .slice p n c := by obtain ⟨p, c, e, _⟩ := own_rowO k1; exact ⟨p, _, c, e⟩
    have HLV : Hid (ReO w4 (.slice pl nl cl) (docOf xs) ∧ DelV w4 w2.heap.size w2.heap.size (.pointer (some ⟨qx, 0, none⟩)) (docOf xs)) := ⟨⟨D', own_rowO k1, k2.re⟩, HX.out.2.2.2.2.below b4⟩
    have hb4 := hb3.trans (b4.mono hb3.size)
    have h24 := b3.trans (b4.mono b3.size)
    have cn2 := cn1 w4 hb4
    clear cw hb3 b3 b4 k1 k2 hlv
    rw [show ((0 : Nat) : Int) = 0 from rfl] at cn1 cn2
    go_wp2_with fail
    refine cn2.mono ?_; rintro r w5 ⟨rfl, b5⟩
    have hb5 := hb4.trans (b5.mono hb4.size)
    have h25 := h24.trans (b5.mono h24.size)
    have h45 := b5
    have cg := cG.out w5 hb5 h25
    simp only [decide_true] at cg
    clear cn2 hb4 h24 b5 cG
    go_wp2_with fail
    refine cg.mono ?_; rintro r w6 ⟨rfl, b6⟩
    have hb6 := hb5.trans (b6.mono hb5.size)
    have h26 := h25.trans (b6.mono h25.size)
    have h46 := h45.trans (b6.mono h45.size)
    have ch := cH.out w6 hb6 h26
    clear cg hb5 h25 b6 cH h45
    go_wp2_with fail
    refine ch.mono ?_; rintro r w7 ⟨bv, rfl, -, hbv, b7⟩
    have hbv' := hbv xs (by first | rfl | trivial) HX.out.1
    obtain ⟨sb, hsb⟩ : ∃ b, decide (E = docOf xs) = b := ⟨_, rfl⟩
    rw [hsb] at hbv'
    subst hbv'
    have HSB := Hid.mk10 hsb
    have hb7 := hb6.trans (b7.mono hb6.size)
    have h27 := h26.trans (b7.mono h26.size)
    have h47 := h46.trans (b7.mono h46.size)
    have cn3 := cn1 w7 hb7
    clear ch hb6 h26 b7 cn1 hbv hsb h46
    go_wp2_with fail
    refine cn3.mono ?_; rintro r w8 ⟨rfl, b8⟩
    have hb8 := hb7.trans (b8.mono hb7.size)
    have h28 := h27.trans (b8.mono h27.size)
    have h48 := h47.trans (b8.mono h47.size)
    have ci := is7_any (.pointer (some ⟨qx, 0, none⟩)) (.slice pl nl cl) (docOf xs) w8 (HLV.out.2.below h48) HX.out.2.1 HX.out.2.2.1.n (by have := HX.out.2.2.2.1; omega) (HLV.out.1.below h48)
    clear cn3 hb7 h27 b8 h47
    go_wp2_with fail
    refine ci.mono ?_; rintro r w9 ⟨rfl, b9⟩
    have hb9 := hb8.trans (b9.mono hb8.size)
    have h29 := h28.trans (b9.mono h28.size)
    have h49 := h48.trans (b9.mono h48.size)
    have cs := sameD_any (.slice pa na ca) (.slice pl nl cl) E (docOf xs) w9 (HD.out w9 h29).2.2.1 (HLV.out.1.below h49) (by have := HR.out.1.len; omega) HX.out.2.2.1.len (fun o ho => by have := HR.out.1.attr o ho; omega) HX.out.2.2.1.n
    rw [HSB.out] at cs
    clear ci hb8 h28 b9 h48
    go_wp2_with fail
    refine cs.mono ?_; rintro r w10 ⟨rfl, b10⟩
    have hb10 := hb9.trans (b10.mono hb9.size)
    have h210 := h29.trans (b10.mono h29.size)
    have cm := cM.out w10 h210
    have eb : ((!sb) == sb) = false := by cases sb <;> rfl
    clear cs hb9 h29 b10 h49 cM
    go_wp2_with fail
    refine cm.mono ?_; rintro r w11 ⟨rfl, b11⟩
    have hb11 := hb10.trans (b11.mono hb10.size)
    have h211 := h210.trans (b11.mono h210.size)
    have ck := cK.out w11 h211
    clear cm hb10 h210 b11 cK
    go_wp2_with fail
    refine ck.mono ?_; rintro r w12 ⟨rfl, b12⟩
    have hb12 := hb11.trans (b12.mono hb11.size)
    clear ck
    go_wp2
    go_ret
    exact ⟨rfl, hb12⟩
end Go.Proofs.YtplnojapnaaakaaGreatDoor
