/- vellumref04.SameOps and vellumspare.Kept at operations that are the same. -/
import Derived.Test.YtecmdlecfddeeaaDoorSpo
import Derived.Test.YtecmdlecfddeeaaDoorSw
import Derived.Deep.RegionHeld3
namespace Go.Proofs.YtecmdlecfddeeaaDoor
open Go Go.RowKit Go.Lib
set_option linter.unusedVariables false

set_option maxHeartbeats 2000000 in
set_option maxRecDepth 100000 in
theorem sameOps_any (v v' : Value) (E : List Op5) (w : World) (h : ReO w v E) (h' : ReO w v' E) (hl : E.length ≤ 1048576) (hA : ∀ e ∈ E, e.A.length ≤ 1048576) :
    Calls Tryd.prog 44 #[v, v'] w fun r w' => r = .returned (.bool true) ∧ Below w.heap.size w w' := by
  obtain ⟨D, hrow, hre⟩ := h
  obtain ⟨D', hrow', hre'⟩ := h'
  have hE := forall2_len hre
  have hE' := forall2_len hre'
  obtain ⟨n, hn⟩ : ∃ n, D.length = n := ⟨_, rfl⟩
  have hm : D'.length = n := by omega
  obtain ⟨pa, ca, rfl, ha, _, hca⟩ := hrow
  obtain ⟨pb, cb, rfl, hb, _, hcb⟩ := hrow'
  rw [hn] at ha hE ⊢
  rw [hm] at hb hE' ⊢
  have HN : Hid (D.length = n ∧ D'.length = n ∧ E.length = n) := ⟨hn, hm, hE.symm⟩
  have HA : Hid (∀ (j : Nat) (d : OV), D[j]? = some d → ∃ b off, pa = some ⟨b, off, none⟩ ∧ OpAt w b (off + j * 7) d) := hca
  have HB : Hid (∀ (j : Nat) (d : OV), D'[j]? = some d → ∃ b off, pb = some ⟨b, off, none⟩ ∧ OpAt w b (off + j * 7) d) := hcb
  have hl : n ≤ 1048576 := by omega
  have CC : Hid (∀ W (k : Nat) d d', Below w.heap.size w W → D[k]? = some d → D'[k]? = some d' → Calls Tryd.prog 25 #[ovV d, ovV d'] W fun r w' => r = .returned (.bool true) ∧ Below W.heap.size W w') := fun W k d d' hW h1 h2 => by
    obtain ⟨y, hy, r1⟩ := forall2_get (hre.below hW) k d h1
    obtain ⟨y', hy', r2⟩ := forall2_get (hre'.below hW) k d' h2
    obtain rfl : y = y' := Option.some.inj (hy.symm.trans hy')
    have hly := hA y (List.mem_of_getElem? hy)
    have := sameR_any y y (slV d.2.2.2.2) (slV d'.2.2.2.2) W r1.2.2.2.2.row r2.2.2.2.2.row (by omega) (by omega)
    rw [decide_eq_true rfl] at this
    obtain ⟨e1, e2, e3, e4, _⟩ := r1
    obtain ⟨g1, g2, g3, g4, _⟩ := r2
    obtain ⟨dk, dt, dv, dc, ds⟩ := d
    obtain ⟨dk', dt', dv', dc', ds'⟩ := d'
    simp only at e1 e2 e3 e4 g1 g2 g3 g4
    subst e1 e2 e3 e4 g1 g2 g3 g4
    exact this
  clear hca hcb hn hm hre hre' hE hE' hA
  go_enter Tryd.func44, Tryd.ntmps44
  go_wp2
  go_loopw [14, 5, 6] (fun i _ _ wr => ∃ (k : Nat), k ≤ n ∧ i = .int .i64 k ∧ Below w.heap.size w wr) (fun i _ _ _ => n - (RowKit.intOf i).toNat)
  case atStart => exact ⟨0, Nat.zero_le _, rfl, Below.refl _ _⟩
  case round =>
    obtain ⟨k, hk, rfl, hbw⟩ := hrel
    by_cases hlt : k < n
    · have hltI : (k : Int) < n := by omega
      obtain ⟨d, hd⟩ : ∃ q, D[k]? = some q := ⟨_, List.getElem?_eq_getElem (by rw [HN.out.1]; exact hlt)⟩
      obtain ⟨d', hd'⟩ : ∃ q, D'[k]? = some q := ⟨_, List.getElem?_eq_getElem (by rw [HN.out.2.1]; exact hlt)⟩
      have cc := fun W hW => CC.out W k d d' hW hd hd'
      obtain ⟨b, off, rfl, hin⟩ := HA.out k d hd
      obtain ⟨b', off', rfl, hin'⟩ := HB.out k d' hd'
      obtain ⟨c0, c1, c2, c3, c4, c5, c6⟩ := hin.below hbw
      obtain ⟨d0, d1, d2, d3, d4, d5, d6⟩ := hin'.below hbw
      clear hin hin' hd hd'
      obtain ⟨f, t, ⟨x, z, u⟩, cc1, p, j, c⟩ := d
      obtain ⟨f', t', ⟨x', z', u'⟩, cc1', p', j', c'⟩ := d'
      simp only [slV] at c0 c1 c2 c3 c4 c5 c6 d0 d1 d2 d3 d4 d5 d6
      simp only [ovV, ovC, slV] at cc
      have HU : Hid (∀ w', Below wr.drew.heap.size wr.drew w' → (w'.cell? ⟨b, off + k * 7, none⟩ = some (.int .i64 f) ∧ w'.cell? ⟨b, off + k * 7 + 1, none⟩ = some (.string t) ∧ w'.cell? ⟨b, off + k * 7 + 2, none⟩ = some (.int .i64 x) ∧ w'.cell? ⟨b, off + k * 7 + 3, none⟩ = some (.int .i64 z) ∧ w'.cell? ⟨b, off + k * 7 + 4, none⟩ = some (.string u) ∧ w'.cell? ⟨b, off + k * 7 + 5, none⟩ = some (.int .i64 cc1) ∧ w'.cell? ⟨b, off + k * 7 + 6, none⟩ = some (.slice p j c) ∧ w'.cell? ⟨b', off' + k * 7, none⟩ = some (.int .i64 f') ∧ w'.cell? ⟨b', off' + k * 7 + 1, none⟩ = some (.string t') ∧ w'.cell? ⟨b', off' + k * 7 + 2, none⟩ = some (.int .i64 x') ∧ w'.cell? ⟨b', off' + k * 7 + 3, none⟩ = some (.int .i64 z') ∧ w'.cell? ⟨b', off' + k * 7 + 4, none⟩ = some (.string u') ∧ w'.cell? ⟨b', off' + k * 7 + 5, none⟩ = some (.int .i64 cc1') ∧ w'.cell? ⟨b', off' + k * 7 + 6, none⟩ = some (.slice p' j' c'))) := fun w' hb => ⟨(hb.cell (lt_of_cell (w := wr.drew) c0)).trans c0, (hb.cell (lt_of_cell (w := wr.drew) c1)).trans c1, (hb.cell (lt_of_cell (w := wr.drew) c2)).trans c2, (hb.cell (lt_of_cell (w := wr.drew) c3)).trans c3, (hb.cell (lt_of_cell (w := wr.drew) c4)).trans c4, (hb.cell (lt_of_cell (w := wr.drew) c5)).trans c5, (hb.cell (lt_of_cell (w := wr.drew) c6)).trans c6, (hb.cell (lt_of_cell (w := wr.drew) d0)).trans d0, (hb.cell (lt_of_cell (w := wr.drew) d1)).trans d1, (hb.cell (lt_of_cell (w := wr.drew) d2)).trans d2, (hb.cell (lt_of_cell (w := wr.drew) d3)).trans d3, (hb.cell (lt_of_cell (w := wr.drew) d4)).trans d4, (hb.cell (lt_of_cell (w := wr.drew) d5)).trans d5, (hb.cell (lt_of_cell (w := wr.drew) d6)).trans d6⟩
      have hz0 : w.heap.size ≤ wr.drew.heap.size := hbw.size
      go_wp2_with fail
      go_region_held3 (fun w' => (w'.cell? ⟨b, off + k * 7, none⟩ = some (.int .i64 f) ∧ w'.cell? ⟨b, off + k * 7 + 1, none⟩ = some (.string t) ∧ w'.cell? ⟨b, off + k * 7 + 2, none⟩ = some (.int .i64 x) ∧ w'.cell? ⟨b, off + k * 7 + 3, none⟩ = some (.int .i64 z) ∧ w'.cell? ⟨b, off + k * 7 + 4, none⟩ = some (.string u) ∧ w'.cell? ⟨b, off + k * 7 + 5, none⟩ = some (.int .i64 cc1) ∧ w'.cell? ⟨b, off + k * 7 + 6, none⟩ = some (.slice p j c) ∧ w'.cell? ⟨b', off' + k * 7, none⟩ = some (.int .i64 f') ∧ w'.cell? ⟨b', off' + k * 7 + 1, none⟩ = some (.string t') ∧ w'.cell? ⟨b', off' + k * 7 + 2, none⟩ = some (.int .i64 x') ∧ w'.cell? ⟨b', off' + k * 7 + 3, none⟩ = some (.int .i64 z') ∧ w'.cell? ⟨b', off' + k * 7 + 4, none⟩ = some (.string u') ∧ w'.cell? ⟨b', off' + k * 7 + 5, none⟩ = some (.int .i64 cc1') ∧ w'.cell? ⟨b', off' + k * 7 + 6, none⟩ = some (.slice p' j' c')) ∧ Below w.heap.size w w')
        (exact ⟨by first | (with_reducible assumption) | (simp [*]; done), by first | (with_reducible assumption) | exact hbw.drew⟩)
        (first | (go_at_call 25; refine (cc _ ?_).mono ?_; (· first | assumption | exact hbw.drew | (apply And.right; assumption)); rintro r w3 ⟨rfl, b3⟩; have b4 : Below w.heap.size w w3 := (hbw.drew).trans (b3.mono hz0); have mm := HU.out _ b3))
      clear cc mm b3
      go_wp2
      go_roundw
      case rel => exact ⟨k + 1, by omega, by go_num, b4⟩
      case measure => simp [RowKit.intOf]; omega
    · have hltI : ¬ (k : Int) < n := by omega
      go_wp2
      go_ret
      exact ⟨rfl, hbw⟩

set_option maxHeartbeats 2000000 in
set_option maxRecDepth 100000 in
theorem keptO_any (v v' : Value) (E : List Op5) (lo hi : Nat) (w : World) (h : SpO w lo hi v E) (h' : ReO w v' E) (hl : E.length ≤ 1048576) (hA : ∀ e ∈ E, e.A.length ≤ 1048576) :
    Calls Tryd.prog 17 #[v, v'] w fun r w' => r = .returned (.bool true) ∧ Below w.heap.size w w' := by
  have cS := sameOps_any v v' E w h.re h' hl hA
  obtain ⟨g, cap, D, rfl, hlo, hhi, hDE, hown, hsp⟩ := h
  obtain ⟨n, hn⟩ : ∃ n, E.length = n := ⟨_, rfl⟩
  have hcap : n + 1 ≤ cap := by
    obtain ⟨p, c, he, hc, _, _⟩ := own_rowO hown
    simp only [Value.slice.injEq] at he
    obtain ⟨-, -, rfl⟩ := he
    simp [hDE, hn] at hc
    omega
  have h77 : w.cell? ⟨g, n * 7, none⟩ = some (.int .i64 77) := by
    have := (own_opAt hown n d77 (by rw [List.getElem?_append_right (by omega), hDE, hn]; simp)).c0
    rwa [Nat.zero_add] at this
  have HO : Hid (∀ j d, D[j]? = some d → OpAt w g (0 + j * 7) d) := fun j d hd => own_opAt hown j d (by rw [List.getElem?_append_left (List.getElem?_eq_some_iff.1 hd).1]; exact hd)
  have HS : Hid (SpD w lo hi D E) := hsp
  have HL : Hid (D.length = n ∧ E.length = n ∧ ∀ e ∈ E, e.A.length ≤ 1048576) := ⟨by rw [hDE, hn], hn, hA⟩
  obtain ⟨D', ⟨pb, cb, rfl, hcb, _, _⟩, hre'⟩ := h'
  have hE' := forall2_len hre'
  rw [hn] at hl cS ⊢
  rw [show D'.length = n by omega] at cS hcb ⊢
  clear hDE hn hown hsp hA hre' hE'
  have q1 := beq_key (x := ⟨#[115, 112, 97, 114, 101]⟩) (y := ⟨#[115, 112, 97, 114, 101]⟩) true (decide_eq_true rfl)
  go_enter Tryd.func17, Tryd.ntmps17
  go_wp2_with fail
  refine cS.mono ?_; rintro r w2 ⟨rfl, hb2⟩
  have e77 := (hb2.cell (lt_of_cell h77)).trans h77
  clear cS h77
  go_wp2_with fail
  go_loopw [8, 29] (fun _ i wr => ∃ (k : Nat), k ≤ n ∧ i = .int .i64 k ∧ Below w.heap.size w wr) (fun _ i _ => n - (RowKit.intOf i).toNat)
  case atStart => exact ⟨0, Nat.zero_le _, rfl, hb2⟩
  case round =>
    clear hb2 e77
    obtain ⟨k, hk, rfl, hbw⟩ := hrel
    by_cases hlt : k < n
    · have hltI : (k : Int) < n := by omega
      obtain ⟨d, hd⟩ : ∃ q, D[k]? = some q := ⟨_, List.getElem?_eq_getElem (by rw [HL.out.1]; exact hlt)⟩
      obtain ⟨e, he, hr⟩ := forall2_get HS.out k d hd
      obtain ⟨c0, c1, c2, c3, c4, c5, c6⟩ := (HO.out k d hd).below hbw
      have hs := hr.2.2.2.2.below hbw (Nat.le_refl _)
      have hal := HL.out.2.2 e (List.mem_of_getElem? he)
      clear hd he hr
      obtain ⟨f, t, ⟨x, z, u⟩, cc1, s⟩ := d
      rw [Nat.zero_add] at c0 c1 c2 c3 c4 c5 c6
      simp only at c0 c1 c2 c3 c4 c5 c6 hs
      have bA : ∀ o, Below w.heap.size w (wr.alloc o) := fun o => hbw.alloc hbw.size o
      rcases hs with ⟨h1, rfl⟩ | ⟨ga, cc, h1, rfl, h3, h4, h5, h6⟩
      · simp only [slV] at c6
        clear h1
        go_wp2_with fail
        go_roundw
        case rel => exact ⟨k + 1, by omega, by go_num, bA _⟩
        case measure => simp [RowKit.intOf]; omega
      · simp only [slV] at c6
        obtain ⟨m, hm⟩ : ∃ m, e.A.length = m := ⟨_, rfl⟩
        have hm0 : 0 < m := by rcases Nat.eq_zero_or_pos m with h0 | h0; exact absurd (List.eq_nil_of_length_eq_zero (hm.trans h0)) h1; exact h0
        have hm0I : (0 : Int) < (m : Int) := by omega
        obtain ⟨p9, c9, e9, hc9, hr9⟩ := own_rowA h6
        simp only [Value.slice.injEq] at e9
        obtain ⟨rfl, -, rfl⟩ := e9
        have hc9' : m + 1 ≤ cc := by simp [hm] at hc9; omega
        obtain ⟨b9, o9, hp9, hat⟩ := hr9 m s1 (by rw [List.getElem?_append_right (by omega), hm]; simp)
        simp only [Option.some.injEq, Addr.mk.injEq, and_true] at hp9
        obtain ⟨rfl, rfl⟩ := hp9
        have k0 := hat.c0
        rw [Nat.zero_add] at k0
        simp only at k0
        have hga : ga < wr.heap.size := lt_of_cell k0
        have hg1 : ¬ ga = wr.heap.size := by omega
        have hg2 : ¬ wr.heap.size = ga := by omega
        rw [hm] at hal c6
        clear h1 h3 h4 h5 h6 hr9 hat hc9 hm
        go_wp2_with fail
        go_roundw
        case rel => exact ⟨k + 1, by omega, by go_num, bA _⟩
        case measure => simp [RowKit.intOf]; omega
    · have hltI : ¬ (k : Int) < n := by omega
      go_wp2
      go_ret
      exact ⟨rfl, hbw⟩
end Go.Proofs.YtecmdlecfddeeaaDoor
