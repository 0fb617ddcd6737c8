/- vellumspare.Copy: operations as new memory, with spare room. -/
import Derived.Test.YtecmdlecfddeeaaDoorSa
import Derived.Deep.RegionHeld3
import Derived.Deep.DeepCutAuto
namespace Go.Proofs.YtecmdlecfddeeaaDoor
open Go Go.RowKit Go.Lib
set_option linter.unusedVariables false

theorem spD_snoc {w : World} {lo hi : Nat} {D : List OV} {E : List Op5} {d : OV} {e : Op5} (h : SpD w lo hi D E) (h1 : d.1 = e.k ∧ d.2.1 = e.t ∧ d.2.2.1 = e.v ∧ d.2.2.2.1 = e.c ∧ SpA w lo hi d.2.2.2.2 e.A) : SpD w lo hi (D ++ [d]) (E ++ [e]) :=
  forall2_append h (.cons h1 .nil)

set_option maxHeartbeats 2000000 in
set_option maxRecDepth 100000 in
theorem copy_any (v : Value) (E : List Op5) (w : World) (hv : ReO w v E) (hl : E.length ≤ 1048576) (hA : ∀ e ∈ E, e.A.length ≤ 1048576) :
    Calls Tryd.prog 11 #[v] w fun r w' => ∃ v', r = .returned v' ∧ SpO w' w.heap.size w'.heap.size v' E ∧ Below w.heap.size w w' := by
  obtain ⟨D0, hrow, hre⟩ := hv
  have hDE := forall2_len hre
  obtain ⟨n, hn⟩ : ∃ n, D0.length = n := ⟨_, rfl⟩
  obtain ⟨p, cap, rfl, hcap, hnz, hc⟩ := hrow
  have HC : Hid (∀ (j : Nat) (d : OV), D0[j]? = some d → ∃ b off, p = some ⟨b, off, none⟩ ∧ OpAt w b (off + j * 7) d) := hc
  have HN : Hid (D0.length = n ∧ E.length = n) := ⟨hn, by rw [← hDE, hn]⟩
  have HE : Hid (ReD w D0 E ∧ ∀ e ∈ E, e.A.length ≤ 1048576) := ⟨hre, hA⟩
  have hl : n ≤ 1048576 := by rw [← hn, hDE]; exact hl
  rw [hn] at hcap ⊢
  clear hc hn hDE hre hA hnz
  have HS : Hid (∀ W, Below w.heap.size w W → ∀ (s : Sl) (A : List A2), RN w (slV s) A → A.length ≤ 1048576 → Calls Tryd.prog 34 #[slV s] W fun r w' => ∃ s', r = .returned (slV s') ∧ SpA w' W.heap.size w'.heap.size s' A ∧ Below W.heap.size W w') := fun W hW s A h1 h2 => spA_any _ A W (h1.below hW).row h2
  have o0 := own_emptyO w w.heap.size (Nat.le_refl _)
  have b0 := (Below.refl w.heap.size w).alloc (Nat.le_refl _) (.cells #[] 26)
  obtain ⟨W0, hW0⟩ : ∃ W, W = w.alloc (.cells #[] 26) := ⟨_, rfl⟩
  obtain ⟨v0, hv0⟩ : ∃ v0 : Value, v0 = .slice (some ⟨w.heap.size, 0, none⟩) 0 0 := ⟨_, rfl⟩
  rw [← hW0, ← hv0] at o0
  rw [← hW0] at b0
  go_enter Tryd.func11, Tryd.ntmps11
  go_wp2
  rw [← hW0, ← hv0]
  clear hW0 hv0
  go_loopw [3, 9] (fun o i wr => ∃ (k : Nat) (D : List OV), k ≤ n ∧ i = .int .i64 k ∧ D.length = k ∧ OwnO wr w.heap.size o D ∧ SpD wr w.heap.size wr.heap.size D (E.take k) ∧ Below w.heap.size w wr) (fun _ i _ => n - (RowKit.intOf i).toNat)
  case atStart => exact ⟨0, [], Nat.zero_le _, rfl, rfl, o0, .nil, b0⟩
  case round =>
    clear o0 b0
    obtain ⟨k, D, hk, rfl, hDl, hown, hsp, hbw⟩ := hrel
    by_cases hlt : k < n
    · have hltI : (k : Int) < n := by omega
      obtain ⟨d, hd⟩ : ∃ d, D0[k]? = some d := ⟨_, List.getElem?_eq_getElem (by rw [HN.out.1]; exact hlt)⟩
      obtain ⟨e, he, hr⟩ := forall2_get HE.out.1 k d hd
      obtain ⟨b, off, rfl, hp⟩ := HC.out k d hd
      obtain ⟨c0, c1, c2, c3, c4, c5, c6⟩ := hp.below hbw
      have cS := HS.out _ (hbw.alloc hbw.size (.cells (ovC d) 26)) d.2.2.2.2 e.A hr.2.2.2.2 (HE.out.2 e (List.mem_of_getElem? he))
      have HT : Hid (E.take (k + 1) = E.take k ++ [e]) := by show _ = _; rw [List.take_add_one, he]; rfl
      have HR : Hid (d.1 = e.k ∧ d.2.1 = e.t ∧ d.2.2.1 = e.v ∧ d.2.2.2.1 = e.c) := ⟨hr.1, hr.2.1, hr.2.2.1, hr.2.2.2.1⟩
      have HO : Hid (OwnO wr w.heap.size u3 D ∧ SpD wr w.heap.size wr.heap.size D (E.take k)) := ⟨hown, hsp⟩
      clear hd he hr hp hown hsp
      obtain ⟨dk, dt, ⟨dx, dn, du⟩, dc, ds⟩ := d
      obtain ⟨dp, dl, dcap⟩ := ds
      simp only [slV, ovC] at c0 c1 c2 c3 c4 c5 c6 cS
      go_wp2_with fail
      refine cS.mono ?_; rintro r w5 ⟨⟨sp, sl, sc⟩, rfl, sp5, hb5⟩
      obtain ⟨W4, hW4⟩ : ∃ W, W = wr.alloc (.cells #[.int .i64 dk, .string dt, .int .i64 dx, .int .i64 dn, .string du, .int .i64 dc, .slice dp dl dcap] 26) := ⟨_, rfl⟩
      rw [← hW4] at sp5 hb5
      have D4 : OpAt W4 wr.heap.size 0 (dk, dt, (dx, dn, du), dc, dp, dl, dcap) := by rw [hW4]; exact ⟨by simp, by simp, by simp, by simp, by simp, by simp, by simp⟩
      have b4 : Below wr.heap.size wr W4 := by rw [hW4]; exact (Below.refl _ _).alloc (Nat.le_refl _) _
      have s4 : W4.heap.size = wr.heap.size + 1 := by rw [hW4]; simp
      have f4 : W4.frozen? ⟨wr.heap.size, 6, none⟩ = false := by rw [hW4]; simp
      clear hW4 cS
      have f5 := (hb5.frozen (p := ⟨wr.heap.size, 6, none⟩) D4.lt).trans f4
      have D5 := D4.below hb5
      obtain ⟨q0, q1, q2, q3, q4, q5, q6⟩ := D4.below hb5
      simp only [Nat.zero_add, slV] at q0 q1 q2 q3 q4 q5 q6
      have b5 := b4.trans (hb5.mono b4.size)
      have hs5 := hb5.size
      clear D4 f4 c0 c1 c2 c3 c4 c5 c6
      go_upto_region 6 with fail
      obtain ⟨W6, hW6⟩ : ∃ W, W = w5.setCell ⟨wr.heap.size, 6, none⟩ (.slice sp sl sc) := ⟨_, rfl⟩
      have hq : ∀ i, i ≠ 6 → W6.cell? ⟨wr.heap.size, i, none⟩ = w5.cell? ⟨wr.heap.size, i, none⟩ := fun i hi => by
        rw [hW6]; exact World.cell?_setCell_other _ _ _ _ (fun e => by cases e; omega)
      have r0 := (hq 0 (by decide)).trans q0
      have r1 := (hq 1 (by decide)).trans q1
      have r2 := (hq 2 (by decide)).trans q2
      have r3 := (hq 3 (by decide)).trans q3
      have r4 := (hq 4 (by decide)).trans q4
      have r5 := (hq 5 (by decide)).trans q5
      have r6 : W6.cell? ⟨wr.heap.size, 6, none⟩ = some (.slice sp sl sc) := by rw [hW6]; exact World.cell?_setCell_same' _ _ _ (by rw [q6]; rfl)
      have b6 : Below wr.heap.size wr W6 := by rw [hW6]; exact b5.setCell (Nat.le_refl _) _
      have sp6 : SpA W6 w.heap.size W6.heap.size (sp, sl, sc) e.A := by
        have h1 := (sp5.setBelow (g := wr.heap.size) (by omega) 6 (.slice sp sl sc)).lower (lo' := w.heap.size) (by have := hbw.size; omega)
        rw [← hW6] at h1
        exact h1.upto (Below.refl _ _) (by rw [hW6]; simp)
      rw [← hW6]
      clear hW6 hq q0 q1 q2 q3 q4 q5 q6 D5 f5 b5 sp5 hb5 b4
      have ba : Below W6.heap.size W6 (W6.alloc (.cells #[.int .i64 dk, .string dt, .int .i64 dx, .int .i64 dn, .string du, .int .i64 dc, .slice sp sl sc] 26)) := (Below.refl _ _).alloc (Nat.le_refl _) _
      have b7 := b6.trans (ba.mono b6.size)
      have HO7 : Hid (OwnO (W6.alloc (.cells #[.int .i64 dk, .string dt, .int .i64 dx, .int .i64 dn, .string du, .int .i64 dc, .slice sp sl sc] 26)) w.heap.size u3 D ∧ OpAt (W6.alloc (.cells #[.int .i64 dk, .string dt, .int .i64 dx, .int .i64 dn, .string du, .int .i64 dc, .slice sp sl sc] 26)) W6.heap.size 0 (dk, dt, (dx, dn, du), dc, sp, sl, sc)) := ⟨owns_below HO.out.1 b7, ⟨by simp, by simp, by simp, by simp, by simp, by simp, by simp⟩⟩
      have HP7 : Hid (SpD (W6.alloc (.cells #[.int .i64 dk, .string dt, .int .i64 dx, .int .i64 dn, .string du, .int .i64 dc, .slice sp sl sc] 26)) w.heap.size (W6.alloc (.cells #[.int .i64 dk, .string dt, .int .i64 dx, .int .i64 dn, .string du, .int .i64 dc, .slice sp sl sc] 26)).heap.size (D ++ [(dk, dt, (dx, dn, du), dc, sp, sl, sc)]) (E.take (k + 1))) := by
        show SpD _ _ _ _ _
        rw [HT.out]
        refine spD_snoc (HO.out.2.upto b7 b7.size) ⟨HR.out.1, HR.out.2.1, HR.out.2.2.1, HR.out.2.2.2, sp6.below ba ba.size⟩
      have hge : Hid (∀ j, u3.ownBlock = some j → w.heap.size ≤ j) := fun j hj => (owns_block HO.out.1 j hj).1
      have bw7 := hbw.trans (b7.mono hbw.size)
      have hlen : D.length ≤ 33554432 := by omega
      clear sp6 ba b7 b6 HO HT HR
      go_wp2_with (at_builtin; refine wpList_append_ops rfl (.tmp 17) (.tmp 19) rfl w.heap.size u3 D rfl HO7.out.1 W6.heap.size 1 _ rfl HO7.out.2 hlen bw7.size ?_; intro v8 w8 own8 gr8 hat8)
      have hsp8 := HP7.out.keep (keepA_grownO HO7.out.1 gr8) gr8.size
      have b8 := bw7.grown gr8 bw7.size (fun j hj => hge.out j hj)
      go_roundw
      case rel => exact ⟨k + 1, _, by omega, by go_num, by simp [hDl], own8, hsp8, b8⟩
      case measure => simp [RowKit.intOf]; omega
    · have hltI : ¬ (k : Int) < n := by omega
      have hkn : k = n := by omega
      have hE : E.take k = E := List.take_of_length_le (by rw [HN.out.2]; omega)
      rw [hE] at hsp
      have ba : Below wr.heap.size wr (wr.alloc (.cells #[.int .i64 77, .string ⟨#[]⟩, .int .i64 0, .int .i64 0, .string ⟨#[]⟩, .int .i64 0, .slice none 0 0] 26)) := (Below.refl _ _).alloc (Nat.le_refl _) _
      have HO7 : Hid (OwnO (wr.alloc (.cells #[.int .i64 77, .string ⟨#[]⟩, .int .i64 0, .int .i64 0, .string ⟨#[]⟩, .int .i64 0, .slice none 0 0] 26)) w.heap.size u3 D ∧ OpAt (wr.alloc (.cells #[.int .i64 77, .string ⟨#[]⟩, .int .i64 0, .int .i64 0, .string ⟨#[]⟩, .int .i64 0, .slice none 0 0] 26)) wr.heap.size 0 d77) := ⟨owns_below hown ba, ⟨by simp, by simp, by first | (simp; done) | simp [z0], by first | (simp; done) | simp [z0], by first | (simp; done) | simp [z0], by simp, by simp⟩⟩
      have HP7 : Hid (SpD (wr.alloc (.cells #[.int .i64 77, .string ⟨#[]⟩, .int .i64 0, .int .i64 0, .string ⟨#[]⟩, .int .i64 0, .slice none 0 0] 26)) w.heap.size (wr.alloc (.cells #[.int .i64 77, .string ⟨#[]⟩, .int .i64 0, .int .i64 0, .string ⟨#[]⟩, .int .i64 0, .slice none 0 0] 26)).heap.size D E) := hsp.below ba ba.size
      have hge : Hid (∀ j, u3.ownBlock = some j → w.heap.size ≤ j) := fun j hj => (owns_block hown j hj).1
      have bw7 := hbw.trans (ba.mono hbw.size)
      have hlen : D.length ≤ 33554432 := by omega
      have HL : Hid (D.length = n) := by show _ = _; omega
      clear hown hsp ba hbw hDl
      go_wp2_with (at_builtin; refine wpList_append_ops rfl (.tmp 22) (.tmp 24) rfl w.heap.size u3 D rfl HO7.out.1 wr.heap.size 1 d77 rfl HO7.out.2 hlen bw7.size ?_; intro v8 w8 own8 gr8 hat8; have hsp8 : Hid (SpD w8 w.heap.size w8.heap.size D E) := HP7.out.keep (keepA_grownO HO7.out.1 gr8) gr8.size; have b8 := bw7.grown gr8 bw7.size (fun j hj => hge.out j hj); obtain ⟨p8, c8, e8, hc8, _, _⟩ := own_rowO own8; rw [show (D ++ [d77]).length = n + 1 by simp [HL.out]] at e8 hc8; subst e8; have HO8 : Hid (OwnO w8 w.heap.size (.slice p8 (n + 1) c8) (D ++ [d77])) := own8; have hcI : n ≤ c8 := (by omega); clear own8 gr8 hat8 HO7 HP7 bw7)
      go_ret
      have hO := HO8.out
      rcases hO.2 with ⟨h1, h2⟩ | ⟨g, cap', cur, h1, h2, h3, h4, h5, h6, h7⟩
      · simp at h2
      · simp only [Value.slice.injEq] at h1
        obtain ⟨rfl, -, rfl⟩ := h1
        refine ⟨_, rfl, ⟨g, c8, D, by rw [HN.out.2]; rfl, h2, (Array.getElem?_eq_some_iff.1 h3).1, by rw [HL.out, HN.out.2], ?_, hsp8.out⟩, b8⟩
        rw [show (D ++ [d77]).length = n + 1 by simp [HL.out]]
        exact hO
end Go.Proofs.YtecmdlecfddeeaaDoor
