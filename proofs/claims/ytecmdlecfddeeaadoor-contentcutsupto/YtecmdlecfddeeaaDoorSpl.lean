/- vellumspare.Spoil: writes over operations and their lists, and nothing else. -/
import Derived.Test.YtecmdlecfddeeaaDoorSpo
namespace Go.Proofs.YtecmdlecfddeeaaDoor
open Go Go.RowKit Go.Lib
set_option linter.unusedVariables false

theorem cell_at {w : World} {g : Nat} {cur : Array Value} {e : TypeId} (h : w.heap[g]? = some (.cells cur e (0, 0))) (j : Nat) (hj : j < cur.size) : ∃ u, w.cell? ⟨g, j, none⟩ = some u :=
  ⟨cur[j], by simp [World.cell?, h, hj]⟩
theorem out_set4 {lo hi : Nat} {w W : World} (h : Out lo hi w W) {g : Nat} (h1 : lo ≤ g) (h2 : g < hi) (a b c d : Nat) (u0 u1 u2 u3 : Value) :
    Out lo hi w ((((W.setCell ⟨g, a, none⟩ u0).setCell ⟨g, b, none⟩ u1).setCell ⟨g, c, none⟩ u2).setCell ⟨g, d, none⟩ u3) :=
  (((h.setCell g a u0 h1 h2).setCell g b u1 h1 h2).setCell g c u2 h1 h2).setCell g d u3 h1 h2
theorem set4_other (W : World) {g k : Nat} (hk : k ≠ g) (a b c d i : Nat) (u0 u1 u2 u3 : Value) :
    ((((W.setCell ⟨g, a, none⟩ u0).setCell ⟨g, b, none⟩ u1).setCell ⟨g, c, none⟩ u2).setCell ⟨g, d, none⟩ u3).cell? ⟨k, i, none⟩ = W.cell? ⟨k, i, none⟩ := by
  refine World.cell?_of_block (a := ⟨k, i, none⟩) ?_
  have h : ∀ (W : World) (j : Nat) (v : Value), (W.setCell ⟨g, j, none⟩ v).heap[k]? = W.heap[k]? := fun W j v => Below.heap_setCell _ _ _ _ hk
  rw [h, h, h, h]

theorem out_set7 {lo hi : Nat} {w W : World} (h : Out lo hi w W) {g : Nat} (h1 : lo ≤ g) (h2 : g < hi) (o : Nat) (u0 u1 u2 u3 u4 u5 u6 : Value) :
    Out lo hi w (((((((W.setCell ⟨g, o, none⟩ u0).setCell ⟨g, o + 1, none⟩ u1).setCell ⟨g, o + 2, none⟩ u2).setCell ⟨g, o + 3, none⟩ u3).setCell ⟨g, o + 4, none⟩ u4).setCell ⟨g, o + 5, none⟩ u5).setCell ⟨g, o + 6, none⟩ u6) :=
  ((((((h.setCell g _ u0 h1 h2).setCell g _ u1 h1 h2).setCell g _ u2 h1 h2).setCell g _ u3 h1 h2).setCell g _ u4 h1 h2).setCell g _ u5 h1 h2).setCell g _ u6 h1 h2
theorem set7_far (W : World) {g o i : Nat} (hi : o + 7 ≤ i) (u0 u1 u2 u3 u4 u5 u6 : Value) :
    (((((((W.setCell ⟨g, o, none⟩ u0).setCell ⟨g, o + 1, none⟩ u1).setCell ⟨g, o + 2, none⟩ u2).setCell ⟨g, o + 3, none⟩ u3).setCell ⟨g, o + 4, none⟩ u4).setCell ⟨g, o + 5, none⟩ u5).setCell ⟨g, o + 6, none⟩ u6).cell? ⟨g, i, none⟩ = W.cell? ⟨g, i, none⟩ := by
  have h : ∀ (W : World) (j : Nat) (v : Value), j < i → (W.setCell ⟨g, j, none⟩ v).cell? ⟨g, i, none⟩ = W.cell? ⟨g, i, none⟩ := fun W j v hj => World.cell?_setCell_other _ _ _ _ (fun e => by cases e; omega)
  rw [h _ _ _ (by omega), h _ _ _ (by omega), h _ _ _ (by omega), h _ _ _ (by omega), h _ _ _ (by omega), h _ _ _ (by omega), h _ _ _ (by omega)]
theorem OpAt.far (W : World) {g o j : Nat} {d : OV} (h : OpAt W g j d) (hi : o + 7 ≤ j) (u0 u1 u2 u3 u4 u5 u6 : Value) :
    OpAt (((((((W.setCell ⟨g, o, none⟩ u0).setCell ⟨g, o + 1, none⟩ u1).setCell ⟨g, o + 2, none⟩ u2).setCell ⟨g, o + 3, none⟩ u3).setCell ⟨g, o + 4, none⟩ u4).setCell ⟨g, o + 5, none⟩ u5).setCell ⟨g, o + 6, none⟩ u6) g j d :=
  ⟨(set7_far W (by omega) ..).trans h.c0, (set7_far W (by omega) ..).trans h.c1, (set7_far W (by omega) ..).trans h.c2, (set7_far W (by omega) ..).trans h.c3, (set7_far W (by omega) ..).trans h.c4, (set7_far W (by omega) ..).trans h.c5, (set7_far W (by omega) ..).trans h.c6⟩

set_option maxHeartbeats 2000000 in
set_option maxRecDepth 100000 in
theorem spoil_any (v : Value) (E : List Op5) (lo hi : Nat) (w : World) (h : SpO w lo hi v E) (hl : E.length ≤ 1048576) (hA : ∀ e ∈ E, e.A.length ≤ 1048576) :
    Calls Tryd.prog 22 #[v] w fun r w' => r = .returned (.tuple #[]) ∧ Out lo hi w w' := by
  obtain ⟨g, cap, D, rfl, hlo, hhi, hDE, hown, hsp⟩ := h
  obtain ⟨n, hn⟩ : ∃ n, E.length = n := ⟨_, rfl⟩
  have HB : Hid (∃ cur, w.heap[g]? = some (.cells cur 26 (0, 0)) ∧ n * 7 + 7 ≤ cur.size) := by
    rcases hown.2 with ⟨h1, h2⟩ | ⟨g', cap', cur, h1, h2, h3, h4, h5, h6, h7⟩
    · simp at h2
    · simp only [Value.slice.injEq, Option.some.injEq, Addr.mk.injEq, and_true, true_and] at h1
      obtain ⟨rfl, -, rfl⟩ := h1
      refine ⟨cur, h3, ?_⟩
      have : (D ++ [d77]).length = n + 1 := by simp [hDE, hn]
      rw [this] at h4
      rw [h6]
      omega
  have HO : Hid (∀ j d, D[j]? = some d → OpAt w g (0 + j * 7) d) := fun j d hd => own_opAt hown j d (by rw [List.getElem?_append_left (List.getElem?_eq_some_iff.1 hd).1]; exact hd)
  have HS : Hid (SpD w lo hi D E) := hsp
  have HL : Hid (D.length = n ∧ E.length = n ∧ ∀ e ∈ E, e.A.length ≤ 1048576) := ⟨by rw [hDE, hn], hn, hA⟩
  have hcI : n ≤ cap := by
    rcases hown.2 with ⟨h1, h2⟩ | ⟨g', cap', cur, h1, h2, h3, h4, h5, h6, h7⟩
    · simp at h2
    · simp only [Value.slice.injEq, Option.some.injEq, Addr.mk.injEq, and_true, true_and] at h1
      obtain ⟨rfl, -, rfl⟩ := h1
      have : (D ++ [d77]).length = n + 1 := by simp [hDE, hn]
      omega
  rw [hn] at hl ⊢
  clear hDE hn hown hsp hA
  go_enter Tryd.func22, Tryd.ntmps22
  go_wp2
  go_loopw [2, 3, 6] (fun _ _ i wr => ∃ (k : Nat), k ≤ n ∧ i = .int .i64 k ∧ Out lo hi w wr ∧ Hid (∀ j d, k ≤ j → D[j]? = some d → OpAt wr g (0 + j * 7) d)) (fun _ _ i _ => n - (RowKit.intOf i).toNat)
  case atStart => exact ⟨0, Nat.zero_le _, rfl, Out.refl _ _ _, fun j d _ hd => HO.out j d hd⟩
  case round =>
    obtain ⟨k, hk, rfl, ho, H⟩ := hrel
    by_cases hlt : k < n
    · have hltI : (k : Int) < n := by omega
      obtain ⟨d, hd⟩ : ∃ d, D[k]? = some d := ⟨_, List.getElem?_eq_getElem (by rw [HL.out.1]; exact hlt)⟩
      obtain ⟨e, he, hr⟩ := forall2_get HS.out k d hd
      obtain ⟨c0, c1, c2, c3, c4, c5, c6⟩ := H.out k d (Nat.le_refl _) hd
      obtain ⟨m, hm⟩ : ∃ m, e.A.length = m := ⟨_, rfl⟩
      have hml : m ≤ 1048576 := by rw [← hm]; exact HL.out.2.2 e (List.mem_of_getElem? he)
      rw [Nat.zero_add] at c0 c1 c2 c3 c4 c5 c6
      obtain ⟨pa, ca, hpa⟩ : ∃ pa ca, d.2.2.2.2 = (pa, m, ca) := by
        rcases hr.2.2.2.2 with ⟨h1, h2⟩ | ⟨ga, cc, h1, h2, _⟩
        · exact ⟨none, 0, by rw [h2, ← hm, h1]; rfl⟩
        · exact ⟨_, _, by rw [h2, hm]⟩
      have HA : Hid (0 < m → ∃ ga, pa = some ⟨ga, 0, none⟩ ∧ lo ≤ ga ∧ ga < hi ∧ ga ≠ g ∧ ∀ W, Out lo hi w W → ∀ i, i < m * 4 → (∃ u, W.cell? ⟨ga, i, none⟩ = some u) ∧ W.frozen? ⟨ga, i, none⟩ = false) := fun h0 => by
        rcases hr.2.2.2.2 with ⟨h1, h2⟩ | ⟨ga, cc, h1, h2, h3, h4, h5, h6⟩
        · rw [h1] at hm; simp at hm; omega
        · rw [hpa] at h2
          simp only [Prod.mk.injEq] at h2
          obtain ⟨rfl, -, rfl⟩ := h2
          rcases h6.2 with ⟨h7, h8⟩ | ⟨g', cap', cur, h7, h8, h9, h10, h11, h12, h13⟩
          · simp at h8
          · simp only [Value.slice.injEq, Option.some.injEq, Addr.mk.injEq, and_true, true_and] at h7
            obtain ⟨rfl, -, rfl⟩ := h7
            refine ⟨ga, rfl, h3, h4, fun hg => ?_, fun W hW i hi => ?_⟩
            · subst hg
              obtain ⟨cur', hb, _⟩ := HB.out
              rw [hb] at h9
              simp only [Option.some.injEq, Obj.cells.injEq] at h9
              exact absurd h9.2.1 (by decide)
            · obtain ⟨cur', hb, hs⟩ := hW.shape ga cur _ _ h9 h4
              exact ⟨cell_at hb i (by rw [hs, h12]; omega), frozen_of_row W ga i cur' _ hb⟩
      have HD : Hid (OpAt w g (0 + k * 7) d ∧ D[k]? = some d) := ⟨HO.out k d hd, hd⟩
      rw [hpa] at c6
      clear hd he hr hm c0 c1 c2 c3 c4 c5 hpa
      simp only [slV] at c6
      go_wp2_with fail
      go_loopw [3, 15] (fun _ i wr => ∃ (l : Nat), l ≤ m ∧ i = .int .i64 l ∧ Out lo hi w wr ∧ Hid (∀ j d, k ≤ j → D[j]? = some d → OpAt wr g (0 + j * 7) d) ∧ wr.cell? ⟨g, k * 7 + 6, none⟩ = some (.slice pa m ca)) (fun _ i _ => m - (RowKit.intOf i).toNat)
      case atStart => exact ⟨0, Nat.zero_le _, rfl, ho, H, c6⟩
      case round =>
        clear ho H c6
        obtain ⟨l, hlm, rfl, ho, H, c6⟩ := hrel
        by_cases hlt2 : l < m
        · have hltI2 : (l : Int) < m := by omega
          obtain ⟨ga, rfl, hg1, hg2, hg3, hgc⟩ := HA.out (by omega)
          obtain ⟨⟨u0, e0⟩, f0⟩ := hgc _ ho (l * 4) (by omega)
          obtain ⟨⟨u1, e1⟩, f1⟩ := hgc _ ho (l * 4 + 1) (by omega)
          obtain ⟨⟨u2, e2⟩, f2⟩ := hgc _ ho (l * 4 + 2) (by omega)
          obtain ⟨⟨u3', e3⟩, f3⟩ := hgc _ ho (l * 4 + 3) (by omega)
          have hg4 : ¬ ga = g := hg3
          have hg5 : ¬ g = ga := fun h => hg3 h.symm
          have HG : Hid (lo ≤ ga ∧ ga < hi ∧ g ≠ ga) := ⟨hg1, hg2, hg5⟩
          have HOO : Hid (Out lo hi w wr) := ho
          clear hgc hg1 hg2 hg3 ho
          go_wp2_with fail
          go_roundw
          case rel =>
            refine ⟨l + 1, by omega, by go_num, out_set4 HOO.out HG.out.1 HG.out.2.1 _ _ _ _ _ _ _ _, fun j d hj hd => ?_, (set4_other _ HG.out.2.2 _ _ _ _ _ _ _ _ _).trans c6⟩
            exact (H.out j d hj hd).same fun i => set4_other _ HG.out.2.2 _ _ _ _ _ _ _ _ _
          case measure => simp [RowKit.intOf]; omega
        · have hltI2 : ¬ (l : Int) < m := by omega
          have fr : ∀ i, i < n * 7 + 7 → (∃ u, wr.cell? ⟨g, i, none⟩ = some u) ∧ wr.frozen? ⟨g, i, none⟩ = false := fun i hi' => by
            obtain ⟨cur, h1, h2⟩ := HB.out
            obtain ⟨cur', h3, h4⟩ := ho.shape g cur _ _ h1 hhi
            exact ⟨cell_at h3 i (by omega), frozen_of_row wr g i cur' _ h3⟩
          obtain ⟨⟨u0, e0⟩, f0⟩ := fr (k * 7) (by omega)
          obtain ⟨⟨u1, e1⟩, f1⟩ := fr (k * 7 + 1) (by omega)
          obtain ⟨⟨u2, e2⟩, f2⟩ := fr (k * 7 + 2) (by omega)
          obtain ⟨⟨u3', e3⟩, f3⟩ := fr (k * 7 + 3) (by omega)
          obtain ⟨⟨u4', e4⟩, f4⟩ := fr (k * 7 + 4) (by omega)
          obtain ⟨⟨u5', e5⟩, f5⟩ := fr (k * 7 + 5) (by omega)
          obtain ⟨-, f6⟩ := fr (k * 7 + 6) (by omega)
          have HOO : Hid (Out lo hi w wr) := ho
          clear fr ho
          go_wp2_with fail
          go_roundw
          case rel =>
            refine ⟨k + 1, by omega, by go_num, ?_, fun j d hj hd => ?_⟩
            · exact out_set7 HOO.out hlo hhi _ _ _ _ _ _ _ _
            · exact OpAt.far _ (H.out j d (by omega) hd) (by omega) _ _ _ _ _ _ _
          case measure => simp [RowKit.intOf]; omega
    · have hltI : ¬ (k : Int) < n := by omega
      go_wp2
      (try simp only [Exit.inBlock, Exit.then])
      refine bodyPost_end (results_none rfl _ _ _) rfl ?_
      exact ⟨rfl, ho⟩
end Go.Proofs.YtecmdlecfddeeaaDoor
