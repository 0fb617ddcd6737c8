/- vellumlaw01.each answers true of every text, its scalars, and every number. -/
import Derived.Test.YtdnelmbihblakaaDoorEachb
import Derived.RangeFuncLeaves
namespace Go.Proofs.YtdnelmbihblakaaDoor
open Go Go.RowKit Go.Lib Go.Shelf
set_option linter.unusedVariables false
attribute [local go_sem] Oper.semAt_some

theorem each_leave (n0 : World) (W : World) (D D' r : Nat) (tmps : Array Value) (hp : tmps[6]? = some (.pointer (some ⟨r, 0, none⟩))) (hc : W.cell? ⟨r, 0, none⟩ = some (.bool false))
    (hK : W.heap[D]? = some (.deferred (some []))) (hK' : W.heap[D']? = some (.deferred (some []))) (hne : D ≠ D') (h1 : n0.heap.size ≤ D) (h2 : n0.heap.size ≤ D') (h3 : n0.heap.size ≤ r) (hb : Below n0.heap.size n0 W) :
    bodyPostM Fence.wide 5 Tryd.prog Tryd.f17 (fun e w' => e = .returned (.bool true) ∧ Below n0.heap.size n0 w') Exit.ret
      { tmps := tmps, defers := [{ target := .collected D', args := #[] }, { target := .collected D, args := #[] }] } (W.setCell ⟨r, 0, none⟩ (.bool true)) := by
  have k1 := (KeepsOthers.setCell W ⟨r, 0, none⟩ (.bool true)).same D' _ hK' rfl
  have k2 := (KeepsOthers.setCell W ⟨r, 0, none⟩ (.bool true)).same D _ hK rfl
  have k3 : ((W.setCell ⟨r, 0, none⟩ (.bool true)).putObj D' (.deferred none)).heap[D]? = some (.deferred (some [])) := (World.putObj_heap_other hne).trans k2
  have c1 := World.cell?_setCell_same' W ⟨r, 0, none⟩ (.bool true) (by rw [hc]; rfl)
  have c2 := cell_kept c1 (grownBy_putObj' _ D' (.deferred none)) (fun r e => by cases e; exact ⟨_, k1, rfl⟩)
  have c3 := cell_kept c2 (grownBy_putObj' _ D (.deferred none)) (fun r e => by cases e; exact ⟨_, k3, rfl⟩)
  refine ⟨by simp, .inl ⟨_, _, rfl, run_takeDeferred k1, by simp, .inl ⟨_, _, rfl, run_takeDeferred k3, ?_⟩⟩⟩
  refine ⟨.bool true, ?_, rfl, ?_⟩
  · simp [results, Tryd.results17, go_sem, hp, c3]
  · exact ((hb.trans ((Below.refl _ W).setCell (p := ⟨r, 0, none⟩) h3 _)).trans (belowK_b (w := n0) (Nat.le_refl _) _ D' _ _ h2 k1 rfl rfl)).trans (belowK_b (w := n0) (Nat.le_refl _) _ D _ _ h1 k3 rfl rfl)

set_option maxHeartbeats 4000000 in
set_option maxRecDepth 100000 in
theorem each_any {ad : Nat → Addr} (s : ByteArray) (rs : List Nat) (t : List UInt8) (he : s.data.toList = encs rs ++ t) (hrs : scals rs) (ht : stuckL t) (hs : s.size ≤ 1048576)
    (w : World) (hS : Std ad w) (v : Value) (hv : Row32 w v (ints rs)) (stop : Int) :
    Calls Tryd.prog 17 #[.string s, v, .int .i64 stop] w fun e w' => e = .returned (.bool true) ∧ Below w.heap.size w w' := by
  obtain ⟨p, cap, rfl, hc⟩ := hv.ex
  obtain ⟨n, hn⟩ : ∃ n, rs.length = n := ⟨_, rfl⟩
  have hel : (encs rs).length ≤ 1048576 := by have := size_toList s; rw [he, List.length_append] at this; omega
  have hnl : n ≤ 1048576 := by have h1 := txt_count hrs; rw [txt_size] at h1; omega
  simp only [ints_length, hn] at hc ⊢
  have hnf : ∀ (B : Nat) (W : World), (binOp BinOp.eql 61 (.func (.func 42) #[] #[.pointer (some ⟨B, 0, none⟩)]) .nilFunc).run Tryd.prog W = .ok (.bool false) W := fun _ _ => by kernel_rfl
  refine (callsIn_wide (n := 5)).1 ?_
  refine callsIn_of_wp_marks Tryd.func17 rfl trivial ?_ rfl
  simp only [Tryd.ntmps17, List.size_toArray, List.length_cons, List.length_nil, Nat.reduceAdd, Nat.reduceSub, Array.replicate_succ, Array.replicate_zero, List.push_toArray, List.append_toArray, List.nil_append, List.cons_append]
  gi_wp2_with (refine ⟨trivial, ?_⟩; gi_at_call 32; refine (callsIn_wide.2 (each_call _ _)).mono ?_; rintro e w' ⟨rfl, rfl⟩)
  obtain ⟨W0, hW0⟩ : ∃ W0, (((w.alloc (.cells #[.slice p n cap] 30)).alloc (.cells #[.int .i64 stop] 3)).alloc (.cells #[.bool false] 4)).alloc (.cells #[.string s] 9) = W0 := ⟨_, rfl⟩
  obtain ⟨hb0, hsz, hbl, hbs, hbr, hfr, hbx⟩ := boxes4 w _ _ _ _ _ _ _ _ W0 hW0
  rw [hW0]
  have hS0 := hS.below hb0
  refine wpIn_loop_rounds 3 ?_
  rw [roundsIn_succ]
  obtain ⟨Wa, hWa⟩ : ∃ Wa, W0.alloc (.cells #[.int .i64 0] 3) = Wa := ⟨_, rfl⟩
  rw [hWa]
  have ha := cell_new_l W0 (.int .i64 0) 3
  rw [hWa, hsz] at ha
  have hba : Below W0.heap.size W0 Wa := by rw [← hWa]; exact (Below.refl _ _).alloc (Nat.le_refl _) _
  have hza : Wa.heap.size = w.heap.size + 1 + 1 + 1 + 1 + 1 := by rw [← hWa, World.size_alloc, hsz]
  have hcta := ha.1
  have hl0 := (hba.cell (lt_of_cell hbl)).trans hbl
  have hs0 := (hba.cell (lt_of_cell hbs)).trans hbs
  have hr0 := (hba.cell (lt_of_cell hbr)).trans hbr
  have hf0 := (hba.frozen (lt_of_cell hbr)).trans hfr
  have hx0 := (hba.cell (lt_of_cell hbx)).trans hbx
  have hSa := hS0.below hba
  have hca : ∀ j, j < n → ∃ b off, p = some ⟨b, off, none⟩ ∧ Wa.cell? ⟨b, off + j, none⟩ = some (.int .i32 ((ints rs).getD j 0)) := fun j hj => by
    obtain ⟨b, off, h1, h2⟩ := hc j hj
    exact ⟨b, off, h1, (hb0.trans (hba.mono hb0.size)).cell (lt_of_cell h2) |>.trans h2⟩
  clear hWa hW0 hbl hbs hbr hfr hbx hc
  have hb1a := hb0.trans (hba.mono hb0.size)
  gi_wp2
  obtain ⟨W1, hW1⟩ : ∃ W1, (Wa.alloc (.cells #[.int .i64 0] 3)).alloc (.cells #[.int .i64 0] 3) = W1 := ⟨_, rfl⟩
  obtain ⟨hb1, hz1, hbi, hbt⟩ := boxes2 Wa _ _ _ _ W1 hW1
  rw [hW1]
  have HW : Hid (W1.heap.size = Wa.heap.size + 1 + 1) := hz1
  clear hW1 hz1
  refine wpIn_rangeFunc_ownF rfl (by decide) (gf := 42) (lb := #[.pointer (some ⟨w.heap.size + 1 + 1 + 1, 0, none⟩)]) rfl trivial (enters_of Tryd.func42 (by kernel_rfl) rfl)
    (each_stops s rs t he hrs ht hs Wa hSa _ hx0 _ (by decide) W1 hb1) belowK_t (belowK_b (by rw [HW.out]; omega)) (Below.refl _ _) (fun _ => rfl)
    (EI rs Wa) (EX rs Wa 0 stop) (EI_own rs Wa _ (by rw [HW.out]; omega)) (fun c => EX_own rs Wa 0 stop _ (by rw [HW.out]; omega) c) ⟨⟨⟨rfl, Nat.zero_le _⟩, hbi, hbt⟩, hb1⟩ ?a1 ?assign ?body ?done ?stop
  case assign =>
    intro l x W K hK
    gi_wp2
    exact hK
  case body =>
    intro l pre x W hEI hlen
    exact each_body _ rfl rs n hrs hn hnl hel p cap w.heap.size _ stop 0 (.inl rfl) Wa hca hl0 hs0 hr0 hf0 hcta _ hza (by omega) (by omega) l pre x W hEI hlen
  case' done =>
    rintro D xs W hD rfl hI hK
    obtain ⟨⟨_, ⟨hci, hfi⟩, _⟩, hB⟩ := hI
    rw [tgt_len, hn, hza] at hci
  case' stop =>
    rintro D c pre W hD hSp hX hK
    obtain ⟨rfl, _, hgt, hI⟩ := hX.resolve_right (fun h => h.2 hSp)
    obtain ⟨⟨⟨hpr, hpl⟩, ⟨hci, hfi⟩, _⟩, hB⟩ := hI
    obtain ⟨m, hm⟩ : ∃ m, pre.length = m := ⟨_, rfl⟩
    rw [hm, hza] at hci
    rw [hm] at hgt hpl
    rw [hn] at hpl
    clear hpr hSp hm
    have hgB : decide ((m : Int) ≤ stop) = false := decide_eq_false (by omega)
  all_goals
    have hl1 := (hB.cell (lt_of_cell hl0)).trans hl0
    have hs1 := (hB.cell (lt_of_cell hs0)).trans hs0
    have hr1 := (hB.cell (lt_of_cell hr0)).trans hr0
    have hf1 := (hB.frozen (lt_of_cell hr0)).trans hf0
    have hx1 := (hB.cell (lt_of_cell hx0)).trans hx0
    have hct1 := (hB.cell (lt_of_cell hcta)).trans hcta
    have hS1 := hSa.below hB
    have hc1 : ∀ j, j < n → ∃ b off, p = some ⟨b, off, none⟩ ∧ W.cell? ⟨b, off + j, none⟩ = some (.int .i32 ((ints rs).getD j 0)) := fun j hj => by
      obtain ⟨b, off, h1, h2⟩ := hca j hj
      exact ⟨b, off, h1, (hB.cell (lt_of_cell h2)).trans h2⟩
    have hb2 : Below w.heap.size w W := hb1a.trans (hB.mono hb1a.size)
    have hWs : W1.heap.size ≤ D ∧ D < W.heap.size := ⟨hD, (Array.getElem?_eq_some_iff.1 hK).1⟩
    have HK : Hid (W.heap[D]? = some (.deferred (some []))) := hK
    have HC : Hid (∀ j, j < n → ∃ b off, p = some ⟨b, off, none⟩ ∧ W.cell? ⟨b, off + j, none⟩ = some (.int .i32 ((ints rs).getD j 0))) := hc1
    have hz2 : w.heap.size + 1 + 1 + 1 + 1 + 1 + 1 + 1 ≤ W.heap.size := by have := HW.out; omega
    clear hK hD hc1 hl0 hs0 hr0 hf0 hx0 hcta hSa hca hS0 hb0 hb1 hb1a hba hbi hbt ha
  case' done => gi_wp2
  case' stop =>
    by_cases hmn : (m : Int) < n
    all_goals gi_wp2
  all_goals
    clear hci hfi hct1 hB
    try clear hgB
    try clear hmn
    try clear hgt
    try clear hpl
    try clear hX
    rw [roundsIn_succ]
    obtain ⟨Wb, hWb⟩ : ∃ Wb, W.alloc (.cells #[.int .i64 1] 3) = Wb := ⟨_, rfl⟩
    rw [hWb]
    have hb := cell_new_l W (.int .i64 1) 3
    rw [hWb] at hb
    have hbb : Below W.heap.size W Wb := by rw [← hWb]; exact (Below.refl _ _).alloc (Nat.le_refl _) _
    have hzb : Wb.heap.size = W.heap.size + 1 := by rw [← hWb, World.size_alloc]
    have hctb := hb.1
    have hl2 := (hbb.cell (lt_of_cell hl1)).trans hl1
    have hs2 := (hbb.cell (lt_of_cell hs1)).trans hs1
    have hr2 := (hbb.cell (lt_of_cell hr1)).trans hr1
    have hf2 := (hbb.frozen (lt_of_cell hr1)).trans hf1
    have hx2 := (hbb.cell (lt_of_cell hx1)).trans hx1
    have hSb := hS1.below hbb
    have HKb : Hid (Wb.heap[D]? = some (.deferred (some []))) := (hbb.block D hWs.2).trans HK.out
    have hcb : ∀ j, j < n → ∃ b off, p = some ⟨b, off, none⟩ ∧ Wb.cell? ⟨b, off + j, none⟩ = some (.int .i32 ((ints rs).getD j 0)) := fun j hj => by
      obtain ⟨b, off, h1, h2⟩ := HC.out j hj
      exact ⟨b, off, h1, (hbb.cell (lt_of_cell h2)).trans h2⟩
    have hb3 : Below w.heap.size w Wb := hb2.trans (hbb.mono hb2.size)
    have hwD : w.heap.size ≤ D ∧ D < Wb.heap.size := by have := HW.out; omega
    clear hWb hbb hl1 hs1 hr1 hf1 hx1 hS1 hb2 HK HC hb hWs
    gi_wp2
    obtain ⟨W2, hW2⟩ : ∃ W2, (Wb.alloc (.cells #[.int .i64 0] 3)).alloc (.cells #[.int .i64 0] 3) = W2 := ⟨_, rfl⟩
    obtain ⟨hb4, hz4, hbi, hbt⟩ := boxes2 Wb _ _ _ _ W2 hW2
    rw [hW2]
    have HW2 : Hid (W2.heap.size = Wb.heap.size + 1 + 1) := hz4
    clear hW2 hz4
    refine wpIn_rangeFunc_ownF rfl (by decide) (gf := 42) (lb := #[.pointer (some ⟨w.heap.size + 1 + 1 + 1, 0, none⟩)]) rfl trivial (enters_of Tryd.func42 (by kernel_rfl) rfl)
      (each_stops s rs t he hrs ht hs Wb hSb _ hx2 _ (by decide) W2 hb4) belowK_t (belowK_b (by rw [HW2.out]; omega)) (Below.refl _ _) (fun _ => rfl)
      (EI rs Wb) (EX rs Wb 1 stop) (EI_own rs Wb _ (by rw [HW2.out]; omega)) (fun c => EX_own rs Wb 1 stop _ (by rw [HW2.out]; omega) c) ⟨⟨⟨rfl, Nat.zero_le _⟩, hbi, hbt⟩, hb4⟩ ?_ ?_ ?_ ?_ ?_
    rotate_left
    · intro l x W K hK
      gi_wp2
      exact hK
    · intro l pre x W hEI hlen
      exact each_body _ rfl rs n hrs hn hnl hel p cap w.heap.size _ stop 1 (.inr rfl) Wb hcb hl2 hs2 hr2 hf2 hctb _ hzb (by omega) (by omega) l pre x W hEI hlen
    · rintro D' xs W' hD' rfl hI hK'
      obtain ⟨⟨_, ⟨hci, hfi⟩, _⟩, hB⟩ := hI
      rw [tgt_len, hn, hzb] at hci
      have hl3 := (hB.cell (lt_of_cell hl2)).trans hl2
      have hs3 := (hB.cell (lt_of_cell hs2)).trans hs2
      have hr3 := (hB.cell (lt_of_cell hr2)).trans hr2
      have hf3 := (hB.frozen (lt_of_cell hr2)).trans hf2
      have hct3 := (hB.cell (lt_of_cell hctb)).trans hctb
      have HK0 : Hid (W'.heap[D]? = some (.deferred (some []))) := (hB.block D hwD.2).trans HKb.out
      have HK1 : Hid (W'.heap[D']? = some (.deferred (some [])) ∧ W2.heap.size ≤ D') := ⟨hK', hD'⟩
      have hb5 : Below w.heap.size w W' := hb3.trans (hB.mono hb3.size)
      have hzz : w.heap.size + 1 + 1 + 1 < W'.heap.size := by have := hB.size; omega
      clear hK' hD' hB hcb hl2 hs2 hr2 hf2 hx2 hctb hSb hbi hbt hb4
      gi_wp2
      rw [roundsIn_succ]
      obtain ⟨Wc, hWc⟩ : ∃ Wc, W'.alloc (.cells #[.int .i64 2] 3) = Wc := ⟨_, rfl⟩
      rw [hWc]
      have hb := cell_new_l W' (.int .i64 2) 3
      rw [hWc] at hb
      have hbb : Below W'.heap.size W' Wc := by rw [← hWc]; exact (Below.refl _ _).alloc (Nat.le_refl _) _
      have hctc := hb.1
      have hr4 := (hbb.cell (lt_of_cell hr3)).trans hr3
      have hf4 := (hbb.frozen (lt_of_cell hr3)).trans hf3
      have HK2 : Hid (Wc.heap[D]? = some (.deferred (some []))) := (hbb.block D (by have := (Array.getElem?_eq_some_iff.1 HK0.out).1; exact this)).trans HK0.out
      have HK3 : Hid (Wc.heap[D']? = some (.deferred (some [])) ∧ W2.heap.size ≤ D') := ⟨(hbb.block D' (by have := (Array.getElem?_eq_some_iff.1 HK1.out.1).1; exact this)).trans HK1.out.1, HK1.out.2⟩
      have hb6 : Below w.heap.size w Wc := hb5.trans (hbb.mono hb5.size)
      clear hWc hb hbb hl3 hs3 hr3 hf3 hct3 HK0 HK1 hb5 hzz hci hfi
      gi_wp2
      exact each_leave w Wc D D' _ _ rfl hr4 HK2.out HK3.out.1 (by have := HW2.out; have := HK3.out.2; omega) hwD.1 (by have := HW2.out; have := HK3.out.2; have := hb3.size; omega) (by omega) hb6
    · rintro D' c pre W' hD' hSp hX hK'
      rcases hX with ⟨_, h0, _⟩ | ⟨_, hX⟩
      · cases h0
      · exact (hX hSp).elim
end Go.Proofs.YtdnelmbihblakaaDoor
