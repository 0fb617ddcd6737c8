/- The document's Canonical. What vellumref04.copied and vellumref04.Join answer. What vellumref04.Length, Cells and Newlines answer of inserts. The document's deltas: Same, SameOp, Insert, Len. The document's deltas: Len. vellumhand.Make, Is; vellumlaw06's gone, text, large, lives. vellumlaw06.lives answers true. vellumlaw08: of, is, fixed. vellumlaw08: fixed answers true. Canonical lists of operations in order are in order. A delta of a list made canonical. The errors' numbers: what vellumnum.list and vellumnum.Num answer where all nineteen sentinels lie as laid. Deltas of lists made canonical; of all arguments vellumlaw08.MeasureShifts answers true. One delta behind another: of all lists of operations vellumlaw08.MeasureJoins answers true. -/
import Derived.Test.YtgimcloadjjefabGreatDoorMgf
import Derived.Test.YtgimcloadjjefabGreatDoorMga
import Derived.Deep.RegionHeld3
import Derived.Deep.DeepCutAuto
import Derived.Test.YtgimcloadjjefabGreatDoorMgd
import Derived.Test.YtgimcloadjjefabGreatDoorSw
import Derived.Test.YtgimcloadjjefabGreatDoorQe
import Derived.Test.YtgimcloadjjefabGreatDoorEr

/- The document's Canonical. -/
namespace Go.Proofs.YtgimcloadjjefabGreatDoor
open Go Go.RowKit Go.Lib
set_option linter.unusedVariables false

set_option maxHeartbeats 4000000 in
set_option maxRecDepth 100000 in
theorem refCanon_any {I : List Nat} {a : Nat → Addr} (v : Value) (E : List Op5) (w : World) (hS : Std I a w) (hv : ReO w v E) (hF : FitL E) (hl : E.length ≤ 1048576) :
    Calls Tryz.prog 21 #[v] w fun r w' => r = .returned (.bool (canonB E)) ∧ Below w.heap.size w w' := by
  have c1 := refLens_any v E w hS hv hF hl
  obtain ⟨D0, hrow, hre⟩ := hv
  have hDE := forall2_len hre
  obtain ⟨n, hn⟩ : ∃ n, D0.length = n := ⟨_, rfl⟩
  obtain ⟨p, cap, rfl, hcap, hnz, hc⟩ := hrow
  rw [hn] at hcap c1 ⊢
  obtain ⟨x9, hx9⟩ : ∃ x, lensL E = x := ⟨_, rfl⟩
  rw [hx9] at c1
  obtain ⟨b9, r9, e9⟩ := x9
  simp only at c1
  have HC : Hid (∀ (j : Nat) (d : OV), D0[j]? = some d → ∃ b off, p = some ⟨b, off, none⟩ ∧ OpAt w b (off + j * 7) d) := hc
  have HN : Hid (D0.length = n ∧ E.length = n) := ⟨hn, by rw [← hDE, hn]⟩
  have hl : n ≤ 1048576 := by rw [← hn, hDE]; exact hl
  have HK : Hid (∀ (k : Nat) d d', D0[k]? = some d → D0[k + 1]? = some d' → ∃ e e', E[k]? = some e ∧ E[k + 1]? = some e' ∧ ∀ W, Below w.heap.size w W → Calls Tryz.prog 37 #[ovV d, ovV d'] W fun r w' => r = .returned (.bool (apartB e e')) ∧ Below W.heap.size W w') := fun k d d' h1 h2 => by
    obtain ⟨y, hy, r1⟩ := forall2_get hre k d h1
    obtain ⟨y', hy', r2⟩ := forall2_get hre (k + 1) d' h2
    refine ⟨y, y', hy, hy', fun W hW => ?_⟩
    rw [opV_of r1, opV_of r2]
    have h3 := (hF y (List.mem_of_getElem? hy)).n
    have h4 := (hF y' (List.mem_of_getElem? hy')).n
    exact refApart_any y y' _ _ W (r1.2.2.2.2.below hW).row (r2.2.2.2.2.below hW).row (by omega) (by omega)
  have HZ : Hid (∀ (k : Nat) d, D0[k]? = some d → ∃ e, E[k]? = some e ∧ d.1 = e.k ∧ d.2.2.2.2.2.1 = e.A.length) := fun k d h1 => by
    obtain ⟨y, hy, r1⟩ := forall2_get hre k d h1
    obtain ⟨pp, cc, hvv, _⟩ := r1.2.2.2.2.row.val
    simp only [slV, Value.slice.injEq] at hvv
    exact ⟨y, hy, r1.1, hvv.2.1⟩
  have HX : Hid ((lensL E).2.2 = e9) := by show _ = _; rw [hx9]
  clear hc hn hDE hre hnz hF hS hx9
  cases e9 with
  | succ x =>
    have hcan : Hid (canonB E = false) := by
      show canonB E = false
      unfold canonB
      rw [decide_eq_false (fun h => by have := HX.out; omega)]; rfl
    obtain ⟨z, hz⟩ : ∃ z : Int, ((x + 1 : Nat) : Int) = z := ⟨_, rfl⟩
    have hz0 : (z != 0) = true := by rw [← hz, bne_iff_ne]; omega
    rw [hz] at c1
    clear HC HN HK HZ HX hz
    go_enter Tryz.func21, Tryz.ntmps21
    go_wp2_with fail
    refine c1.mono ?_; rintro r w2 ⟨rfl, hb2⟩
    clear c1
    go_wp2
    go_ret
    exact ⟨by rw [hcan.out]; rfl, hb2⟩
  | zero =>
    have hz0 : (((0 : Nat) : Int) != 0) = false := by decide
    go_enter Tryz.func21, Tryz.ntmps21
    go_wp2_with fail
    refine c1.mono ?_; rintro r w2 ⟨rfl, hb2⟩
    clear c1
    go_wp2
    go_loopw [6] (fun i wr => ∃ (k : Nat), (k ≤ n ∨ k = 1) ∧ 1 ≤ k ∧ i = .int .i64 k ∧ Hid (∀ j x y, j + 1 < k → E[j]? = some x → E[j + 1]? = some y → apartB x y = true) ∧ Below w.heap.size w wr) (fun i _ => n + 1 - (RowKit.intOf i).toNat)
    case atStart => exact ⟨1, Or.inr rfl, Nat.le_refl _, rfl, fun j x y h => by omega, hb2⟩
    case round =>
      clear hb2
      obtain ⟨k, hm, h1k, rfl, HCh, hbw⟩ := hrel
      by_cases hlt : k < n
      · have hltI : (k : Int) < n := by omega
        obtain ⟨m, hmk⟩ : ∃ m, k = m + 1 := ⟨k - 1, by omega⟩
        have HM : Hid (k = m + 1) := hmk
        obtain ⟨d, hd⟩ : ∃ q, D0[m]? = some q := ⟨_, List.getElem?_eq_getElem (by rw [HN.out.1]; omega)⟩
        obtain ⟨d', hd'⟩ : ∃ q, D0[k]? = some q := ⟨_, List.getElem?_eq_getElem (by rw [HN.out.1]; omega)⟩
        obtain ⟨e, e', he, he', cc⟩ := HK.out m d d' hd (by rw [← hmk]; exact hd')
        obtain ⟨b, off, rfl, hin⟩ := HC.out m d hd
        obtain ⟨b', off', hbo, hin'⟩ := HC.out k d' hd'
        simp only [Option.some.injEq, Addr.mk.injEq, and_true] at hbo
        obtain ⟨rfl, rfl⟩ := hbo
        obtain ⟨c0, c1, c2, c3, c4, c5, c6⟩ := hin.below hbw
        obtain ⟨d0, d1, d2, d3, d4, d5, d6⟩ := hin'.below hbw
        have HEE : Hid (E[m]? = some e ∧ E[m + 1]? = some e') := ⟨he, he'⟩
        clear hin hin' hd hd' he he'
        obtain ⟨f, t, ⟨x, z, u⟩, cc1, p, j, c⟩ := d
        obtain ⟨f', t', ⟨x', z', u'⟩, cc1', p', j', c'⟩ := d'
        simp only [slV] at c0 c1 c2 c3 c4 c5 c6 d0 d1 d2 d3 d4 d5 d6
        simp only [ovV, ovC, slV] at cc
        have HU : Hid (∀ w', Below wr.drew.heap.size wr.drew w' → (w'.cell? ⟨b, off + m * 7, none⟩ = some (.int .i64 f) ∧ w'.cell? ⟨b, off + m * 7 + 1, none⟩ = some (.string t) ∧ w'.cell? ⟨b, off + m * 7 + 2, none⟩ = some (.int .i64 x) ∧ w'.cell? ⟨b, off + m * 7 + 3, none⟩ = some (.int .i64 z) ∧ w'.cell? ⟨b, off + m * 7 + 4, none⟩ = some (.string u) ∧ w'.cell? ⟨b, off + m * 7 + 5, none⟩ = some (.int .i64 cc1) ∧ w'.cell? ⟨b, off + m * 7 + 6, none⟩ = some (.slice p j c) ∧ w'.cell? ⟨b, off + k * 7, none⟩ = some (.int .i64 f') ∧ w'.cell? ⟨b, off + k * 7 + 1, none⟩ = some (.string t') ∧ w'.cell? ⟨b, off + k * 7 + 2, none⟩ = some (.int .i64 x') ∧ w'.cell? ⟨b, off + k * 7 + 3, none⟩ = some (.int .i64 z') ∧ w'.cell? ⟨b, off + k * 7 + 4, none⟩ = some (.string u') ∧ w'.cell? ⟨b, off + k * 7 + 5, none⟩ = some (.int .i64 cc1') ∧ w'.cell? ⟨b, off + k * 7 + 6, none⟩ = some (.slice p' j' c'))) := fun w' hb => ⟨(hb.cell (lt_of_cell (w := wr.drew) c0)).trans c0, (hb.cell (lt_of_cell (w := wr.drew) c1)).trans c1, (hb.cell (lt_of_cell (w := wr.drew) c2)).trans c2, (hb.cell (lt_of_cell (w := wr.drew) c3)).trans c3, (hb.cell (lt_of_cell (w := wr.drew) c4)).trans c4, (hb.cell (lt_of_cell (w := wr.drew) c5)).trans c5, (hb.cell (lt_of_cell (w := wr.drew) c6)).trans c6, (hb.cell (lt_of_cell (w := wr.drew) d0)).trans d0, (hb.cell (lt_of_cell (w := wr.drew) d1)).trans d1, (hb.cell (lt_of_cell (w := wr.drew) d2)).trans d2, (hb.cell (lt_of_cell (w := wr.drew) d3)).trans d3, (hb.cell (lt_of_cell (w := wr.drew) d4)).trans d4, (hb.cell (lt_of_cell (w := wr.drew) d5)).trans d5, (hb.cell (lt_of_cell (w := wr.drew) d6)).trans d6⟩
        have hz0 : w.heap.size ≤ wr.drew.heap.size := hbw.size
        obtain ⟨q, hq⟩ : ∃ q, apartB e e' = q := ⟨_, rfl⟩
        rw [hq] at cc
        have HQ : Hid (apartB e e' = q) := hq
        have hk0 : (0 : Int) ≤ (k : Int) - 1 := by omega
        have hk1 : (k : Int) - 1 < (n : Int) := by omega
        have hk2 : ((k : Int) - 1).toNat = m := by omega
        have hk3 : IntKind.i64.wrap ((k : Int) - 1) = (k : Int) - 1 := by rw [IntKind.wrap_i64]; omega
        have hk4 : k ≤ 1048576 := by omega
        have hk5 : (1 : Int) ≤ (k : Int) := by omega
        have hk6 : k - 1 = m := by omega
        have hk7 : (0 : Int) ≤ (k : Int) := by omega
        clear hq hm hmk
        cases q with
        | true =>
          have HCh2 : Hid (∀ j x y, j + 1 < k + 1 → E[j]? = some x → E[j + 1]? = some y → apartB x y = true) := fun j x y hj hx hy => by
            by_cases hjm : j = m
            · subst hjm
              obtain rfl := Option.some.inj (hx.symm.trans HEE.out.1)
              obtain rfl := Option.some.inj (hy.symm.trans HEE.out.2)
              exact HQ.out
            · exact HCh.out j x y (by have := HM.out; omega) hx hy
          go_wp2_with fail
          go_region_held3 (fun w' => (w'.cell? ⟨b, off + m * 7, none⟩ = some (.int .i64 f) ∧ w'.cell? ⟨b, off + m * 7 + 1, none⟩ = some (.string t) ∧ w'.cell? ⟨b, off + m * 7 + 2, none⟩ = some (.int .i64 x) ∧ w'.cell? ⟨b, off + m * 7 + 3, none⟩ = some (.int .i64 z) ∧ w'.cell? ⟨b, off + m * 7 + 4, none⟩ = some (.string u) ∧ w'.cell? ⟨b, off + m * 7 + 5, none⟩ = some (.int .i64 cc1) ∧ w'.cell? ⟨b, off + m * 7 + 6, none⟩ = some (.slice p j c) ∧ w'.cell? ⟨b, off + k * 7, none⟩ = some (.int .i64 f') ∧ w'.cell? ⟨b, off + k * 7 + 1, none⟩ = some (.string t') ∧ w'.cell? ⟨b, off + k * 7 + 2, none⟩ = some (.int .i64 x') ∧ w'.cell? ⟨b, off + k * 7 + 3, none⟩ = some (.int .i64 z') ∧ w'.cell? ⟨b, off + k * 7 + 4, none⟩ = some (.string u') ∧ w'.cell? ⟨b, off + k * 7 + 5, none⟩ = some (.int .i64 cc1') ∧ w'.cell? ⟨b, off + k * 7 + 6, none⟩ = some (.slice p' j' c')) ∧ Below w.heap.size w w')
            (exact ⟨by first | (with_reducible assumption) | (simp [*]; done), by first | (with_reducible assumption) | exact hbw.drew⟩)
            (first | (go_at_call 37; refine (cc _ ?_).mono ?_; (· first | assumption | exact hbw.drew | (apply And.right; assumption)); rintro r w3 ⟨rfl, b3⟩; have b4 : Below w.heap.size w w3 := (hbw.drew).trans (b3.mono hz0); have mm := HU.out _ b3))
          clear cc mm b3
          go_wp2
          go_roundw
          case rel => exact ⟨k + 1, by omega, by omega, by go_num, HCh2, b4⟩
          case measure => simp [RowKit.intOf]; omega
        | false =>
          have hcan : Hid (canonB E = false) := by
            show canonB E = false
            cases h : chainB E with
            | true => have := chain_iff.1 h m e e' HEE.out.1 HEE.out.2; rw [HQ.out] at this; cases this
            | false => unfold canonB; rw [h]; simp
          go_wp2_with fail
          go_region_held3 (fun w' => (w'.cell? ⟨b, off + m * 7, none⟩ = some (.int .i64 f) ∧ w'.cell? ⟨b, off + m * 7 + 1, none⟩ = some (.string t) ∧ w'.cell? ⟨b, off + m * 7 + 2, none⟩ = some (.int .i64 x) ∧ w'.cell? ⟨b, off + m * 7 + 3, none⟩ = some (.int .i64 z) ∧ w'.cell? ⟨b, off + m * 7 + 4, none⟩ = some (.string u) ∧ w'.cell? ⟨b, off + m * 7 + 5, none⟩ = some (.int .i64 cc1) ∧ w'.cell? ⟨b, off + m * 7 + 6, none⟩ = some (.slice p j c) ∧ w'.cell? ⟨b, off + k * 7, none⟩ = some (.int .i64 f') ∧ w'.cell? ⟨b, off + k * 7 + 1, none⟩ = some (.string t') ∧ w'.cell? ⟨b, off + k * 7 + 2, none⟩ = some (.int .i64 x') ∧ w'.cell? ⟨b, off + k * 7 + 3, none⟩ = some (.int .i64 z') ∧ w'.cell? ⟨b, off + k * 7 + 4, none⟩ = some (.string u') ∧ w'.cell? ⟨b, off + k * 7 + 5, none⟩ = some (.int .i64 cc1') ∧ w'.cell? ⟨b, off + k * 7 + 6, none⟩ = some (.slice p' j' c')) ∧ Below w.heap.size w w')
            (exact ⟨by first | (with_reducible assumption) | (simp [*]; done), by first | (with_reducible assumption) | exact hbw.drew⟩)
            (first | (go_at_call 37; refine (cc _ ?_).mono ?_; (· first | assumption | exact hbw.drew | (apply And.right; assumption)); rintro r w3 ⟨rfl, b3⟩; have b4 : Below w.heap.size w w3 := (hbw.drew).trans (b3.mono hz0); have mm := HU.out _ b3))
          clear cc mm b3
          go_wp2
          go_ret
          exact ⟨by rw [hcan.out]; rfl, b4⟩
      · have hltI : ¬ (k : Int) < n := by omega
        have HC1 : Hid (chainB E = true) := chain_iff.2 fun j x y hx hy => HCh.out j x y (by
          have := (List.getElem?_eq_some_iff.1 hy).1; rw [HN.out.2] at this; omega) hx hy
        clear HCh
        cases n with
        | zero =>
          have hcan : Hid (canonB E = true) := by
            show canonB E = true
            have : E = [] := List.eq_nil_of_length_eq_zero HN.out.2
            unfold canonB
            rw [HC1.out, decide_eq_true HX.out, this]; rfl
          go_wp2
          go_ret
          exact ⟨by rw [hcan.out]; rfl, hbw⟩
        | succ l =>
          obtain ⟨d, hd⟩ : ∃ q, D0[l]? = some q := ⟨_, List.getElem?_eq_getElem (by rw [HN.out.1]; omega)⟩
          obtain ⟨e, he, hdk, hdl⟩ := HZ.out l d hd
          obtain ⟨b, off, rfl, hin⟩ := HC.out l d hd
          obtain ⟨c0, c1, c2, c3, c4, c5, c6⟩ := hin.below hbw
          have hcan : Hid (canonB E = !plainR e) := by
            show canonB E = _
            unfold canonB lastP
            rw [HC1.out, decide_eq_true HX.out, List.getLast?_eq_getElem?, HN.out.2]
            simp only [Nat.add_sub_cancel, he]
            rfl
          obtain ⟨f, t, ⟨x, z, u⟩, cc1, p, j, c⟩ := d
          simp only [slV] at c0 c1 c2 c3 c4 c5 c6
          simp only at hdk hdl
          have hpl : Hid (plainR e = (f == 3 && j == 0)) := by
            show plainR e = _
            unfold plainR
            rw [hdk, hdl]
            cases e.A <;> simp
          have hl0 : (((l : Int) + 1) == 0) = false := by simp; omega
          have hl1 : ((l : Int) + 1 - 1) = (l : Int) := by omega
          clear he hin hd hdk hdl hm hlt
          by_cases hf : f = 3
          · subst hf
            cases j with
            | zero =>
              go_wp2
              go_ret
              exact ⟨by rw [hcan.out, hpl.out]; rfl, hbw⟩
            | succ j =>
              have hj0 : decide ((0 : Int) < ((j + 1 : Nat) : Int)) = true := decide_eq_true (by omega)
              have hj2 : decide (0 < j + 1) = true := decide_eq_true (by omega)
              go_wp2
              go_ret
              exact ⟨by rw [hcan.out, hpl.out]; rfl, hbw⟩
          · have hf0 : (f != 3) = true := by simpa using hf
            have hf1 : (f == 3) = false := by simpa using hf
            clear hf
            go_wp2
            go_ret
            exact ⟨by rw [hcan.out, hpl.out, hf1]; rfl, hbw⟩
end Go.Proofs.YtgimcloadjjefabGreatDoor

/- What vellumref04.copied and vellumref04.Join answer. -/
namespace Go.Proofs.YtgimcloadjjefabGreatDoor
open Go Go.RowKit Go.Lib
set_option linter.unusedVariables false
end Go.Proofs.YtgimcloadjjefabGreatDoor

/- What vellumref04.Length, Cells and Newlines answer of inserts. -/
namespace Go.Proofs.YtgimcloadjjefabGreatDoor
open Go Go.RowKit Go.Lib
set_option linter.unusedVariables false

theorem ub10 (z : Int) (h : 128 ≤ z) (h1 : z < 256) : ¬ z.toNat.toUInt8 = 10 := fun e => by
  have := congrArg UInt8.toNat e
  rw [u8_nat z (by omega) h1] at this
  simp at this
  omega
theorem count_enc {r : Nat} (h : scal r) : (enc r).count 10 = if r = 10 then 1 else 0 := by
  have h' := h
  unfold scal at h'
  by_cases h1 : r < 128
  · rw [enc_one h1]
    by_cases h0 : r = 10
    · subst h0; rfl
    · rw [if_neg h0, List.count_eq_zero]
      intro hm
      have e := congrArg UInt8.toNat (List.mem_singleton.1 hm)
      rw [u8_nat _ (by omega) (by omega)] at e
      simp at e
      omega
  · rw [if_neg (by omega), List.count_eq_zero]
    intro hm
    by_cases h2 : r < 2048
    · rw [enc_two (by omega) h2] at hm
      simp only [List.mem_cons, List.not_mem_nil, or_false] at hm
      rcases hm with e | e <;> exact ub10 _ (by omega) (by omega) e.symm
    by_cases h3 : r < 65536
    · rw [enc_three (by omega) h3 h] at hm
      simp only [List.mem_cons, List.not_mem_nil, or_false] at hm
      rcases hm with e | e | e <;> exact ub10 _ (by omega) (by omega) e.symm
    · rw [enc_four (by omega) (by omega)] at hm
      simp only [List.mem_cons, List.not_mem_nil, or_false] at hm
      rcases hm with e | e | e | e <;> exact ub10 _ (by omega) (by omega) e.symm
theorem count_encs : ∀ (rs : List Nat), (∀ r ∈ rs, scal r) → (encs rs).count 10 = rs.countP (fun r => ((r : Nat) : Int) == 10)
  | [], _ => rfl
  | r :: rs, h => by
    rw [encs, List.count_append, count_enc (h r (by simp)), count_encs rs (fun x hx => h x (by simp [hx])), List.countP_cons]
    by_cases h0 : r = 10
    · subst h0; simp; omega
    · have : (((r : Nat) : Int) == 10) = false := by simp; omega
      rw [if_neg h0, this]
      simp
/-- How many cells of a list are newlines. -/
def newlC (L : List C5) : Nat := L.countP fun e => e.1 == 10
theorem newlC_of {o : Op5} (h : Ins o) : newlC (cellsOf o) = newlO o := by
  unfold newlC cellsOf newlO
  split
  · obtain ⟨h1, h2, _⟩ := valid_text o.t h.utf
    unfold mkC countByte
    rw [List.countP_map]
    conv => rhs; rw [h2]
    rw [count_encs _ h1]
    rfl
  · rfl
theorem newlC_le (L : List C5) : newlC L ≤ L.length := List.countP_le_length

/-- All blocks of numbers are as they were. -/
def Keep32 (w w' : World) : Prop := ∀ (k : Nat) (cur : Array Value), w.heap[k]? = some (.cells cur 21 (0, 0)) → w'.heap[k]? = w.heap[k]?
theorem keep32_below {w w' : World} (hb : Below w.heap.size w w') : Keep32 w w' := fun k cur hk => hb.block k (Array.getElem?_eq_some_iff.1 hk).1
theorem keep32_own {w w' : World} {B : Nat} {v : Value} {zs : List Int} (h : Own32 B w v zs) (hk : Keep32 w w') : Own32 B w' v zs := by
  obtain ⟨hl, h⟩ := h
  refine ⟨hl, ?_⟩
  rcases h with h | ⟨g, cap, cur, h1, h2, h3, h4⟩
  · exact Or.inl h
  · exact Or.inr ⟨g, cap, cur, h1, h2, (hk g cur h3).trans h3, h4⟩
end Go.Proofs.YtgimcloadjjefabGreatDoor

/- The document's deltas: Same, SameOp, Insert, Len. -/
namespace Go.Proofs.YtgimcloadjjefabGreatDoor
open Go Go.RowKit Go.Lib
set_option linter.unusedVariables false
end Go.Proofs.YtgimcloadjjefabGreatDoor

/- The document's deltas: Len. -/
namespace Go.Proofs.YtgimcloadjjefabGreatDoor
open Go Go.RowKit Go.Lib
set_option linter.unusedVariables false
end Go.Proofs.YtgimcloadjjefabGreatDoor

/- vellumhand.Make, Is; vellumlaw06's gone, text, large, lives. -/
namespace Go.Proofs.YtgimcloadjjefabGreatDoor
open Go Go.RowKit Go.Lib
set_option linter.unusedVariables false
/-- Lists that the calls read. -/
structure OkR (E : List Op5) : Prop where
  n : ∀ o ∈ E, o.A.length ≤ 1048576
  len : E.length ≤ 2097152
/-- A text to insert. -/
def txtO (t : ByteArray) : Op5 := ⟨1, t, z0, 0, []⟩
/-- How large a list is. -/
def larN (E : List Op5) : Int := (E.map fun o => (o.t.size : Int) + 10 * o.A.length + 10).sum
theorem larN_append (E F : List Op5) : larN (E ++ F) = larN E + larN F := by unfold larN; rw [List.map_append, List.sum_append]
theorem larN_one (o : Op5) : larN [o] = (o.t.size : Int) + 10 * o.A.length + 10 := by simp [larN]
theorem larN_le {E : List Op5} (h : FitL E) : 0 ≤ larN E ∧ larN E ≤ 20000000 * E.length := by
  induction E with
  | nil => simp [larN]
  | cons o r ih =>
    obtain ⟨h1, h2⟩ := ih (fun x hx => h x (List.mem_cons_of_mem _ hx))
    have ho := h o (List.mem_cons_self ..)
    have e : larN (o :: r) = (o.t.size : Int) + 10 * o.A.length + 10 + larN r := by simp [larN]
    have a1 := ho.t
    have a2 := ho.n
    rw [e, List.length_cons]
    omega
theorem larN_txt (E : List Op5) : (txtS E : Int) + 10 * E.length ≤ larN E := by
  induction E with
  | nil => simp [larN, txtS]
  | cons o r ih =>
    have e : larN (o :: r) = (o.t.size : Int) + 10 * o.A.length + 10 + larN r := by simp [larN]
    have e2 : txtS (o :: r) = o.t.size + txtS r := by simp [txtS]
    rw [e, e2, List.length_cons]
    omega
theorem larN_mem {E : List Op5} {o : Op5} (h : o ∈ E) : (o.t.size : Int) + 10 * o.A.length + 10 ≤ larN E := by
  induction E with
  | nil => cases h
  | cons x r ih =>
    have e : larN (x :: r) = (x.t.size : Int) + 10 * x.A.length + 10 + larN r := by simp [larN]
    have := larN_txt r
    rcases List.mem_cons.1 h with rfl | h
    · omega
    · have := ih h; omega
end Go.Proofs.YtgimcloadjjefabGreatDoor

/- vellumlaw06.lives answers true. -/
namespace Go.Proofs.YtgimcloadjjefabGreatDoor
open Go Go.RowKit Go.Lib
set_option linter.unusedVariables false

/-- A row of operations laid at once. -/
theorem row_blk {w : World} {b : Nat} {D : List OV} (h : w.heap[b]? = some (.cells (cellsO D).toArray 46 (0, 0))) : RowO w (.slice (some ⟨b, 0, none⟩) D.length D.length) D := by
  refine ⟨some ⟨b, 0, none⟩, D.length, rfl, Nat.le_refl _, fun h => (by cases h), fun j d hd => ⟨b, 0, rfl, ?_⟩⟩
  obtain ⟨k0, k1, k2, k3, k4, k5, k6⟩ := cellsO_get D j d hd
  have e : ∀ i u, (cellsO D)[i]? = some u → w.cell? ⟨b, i, none⟩ = some u := fun i u hu => by
    rw [cell_of_heap h]
    rw [List.getElem?_toArray]
    exact hu
  rw [Nat.zero_add]
  exact ⟨e _ _ k0, e _ _ k1, e _ _ k2, e _ _ k3, e _ _ k4, e _ _ k5, e _ _ k6⟩
/-- An operation without attributes, as it lies in memory. -/
abbrev ovN (o : Op5) : OV := (o.k, o.t, o.v, o.c, (none, 0, 0))
theorem re_blk {w : World} {b : Nat} {E : List Op5} (h : w.heap[b]? = some (.cells (cellsO (E.map ovN)).toArray 46 (0, 0))) (hA : ∀ o ∈ E, o.A = []) : ReO w (.slice (some ⟨b, 0, none⟩) E.length E.length) E := by
  refine ⟨E.map ovN, ?_, ?_⟩
  · have := row_blk h
    rw [List.length_map] at this
    exact this
  · clear h
    induction E with
    | nil => exact .nil
    | cons o r ih =>
      refine .cons ⟨rfl, rfl, rfl, rfl, ?_⟩ (ih fun x hx => hA x (List.mem_cons_of_mem _ hx))
      rw [hA o (List.mem_cons_self ..)]
      exact RN.nil w
def live0 : List Op5 := [delO 1, txtO ⟨#[97]⟩, delO 2, txtO ⟨#[98]⟩, ⟨3, ⟨#[]⟩, z0, 3, []⟩]
def live1 : List Op5 := [txtO ⟨#[97, 98]⟩, delO 3]
theorem live0_ok : ofE 0 0 live0 = (0, 0) := by kernel_rfl
theorem live0_canon : canonL live0 = live1 := by kernel_rfl
theorem fit_nil {o : Op5} (h1 : o.t.size ≤ 8388608) (h2 : o.v.2.2.size ≤ 1048576) (h3 : o.A = []) : Fit o := ⟨h1, h2, fun q hq => (by rw [h3] at hq; cases hq), by rw [h3]; simp⟩
theorem live0_nil : ∀ o ∈ live0, o.A = [] := by
  intro o ho
  simp only [live0, List.mem_cons, List.not_mem_nil, or_false] at ho
  rcases ho with rfl | rfl | rfl | rfl | rfl <;> rfl
theorem live1_nil : ∀ o ∈ live1, o.A = [] := by
  intro o ho
  simp only [live1, List.mem_cons, List.not_mem_nil, or_false] at ho
  rcases ho with rfl | rfl <;> rfl
theorem live0_fit : FitL live0 := by
  intro o ho
  refine fit_nil ?_ ?_ (live0_nil o ho)
  all_goals
    simp only [live0, List.mem_cons, List.not_mem_nil, or_false] at ho
    rcases ho with rfl | rfl | rfl | rfl | rfl <;> decide
theorem live1_okR : OkR live1 := ⟨fun o ho => by rw [live1_nil o ho]; simp, by decide⟩
theorem live1_good : ∀ o ∈ live1, opE o = 0 := by
  intro o ho
  simp only [live1, List.mem_cons, List.not_mem_nil, or_false] at ho
  rcases ho with rfl | rfl <;> kernel_rfl
end Go.Proofs.YtgimcloadjjefabGreatDoor

/- vellumlaw08: of, is, fixed. -/
namespace Go.Proofs.YtgimcloadjjefabGreatDoor
open Go Go.RowKit Go.Lib
set_option linter.unusedVariables false

theorem Hid.mk8 {P : Prop} (h : P) : Hid P := h
theorem canB_can {E : List Op5} (h : canonB E = true) : CanO E ∧ Fits8 E ∧ ∀ o ∈ E, opE o = 0 := by
  obtain ⟨h1, h2, h3, h4, h5⟩ := canonB_iff.1 h
  exact ⟨⟨h1, h4, h5⟩, ⟨h2, h3⟩, wel_good h1 h2⟩
theorem can_canB {E : List Op5} (h : CanO E) (hf : Fits8 E) : canonB E = true := canonB_iff.2 ⟨h.wel, hf.1, hf.2, h.chain, h.last⟩
set_option maxHeartbeats 2000000 in
set_option maxRecDepth 100000 in
theorem of8_any {I : List Nat} {a : Nat → Addr} (v : Value) (A : List Op5) (w : World) (hI : ∀ i ∈ IxO, i ∈ I) (hS : Std I a w) (hv : ReO w v A) (hF : FitL A) (hl : A.length ≤ 1048576) (ht : txtS A ≤ 4194304) :
    Calls Tryz.prog 8 #[v] w fun r w' => ∃ dv, r = .returned dv ∧ (canonB A = true → (∃ q, dv = .pointer (some ⟨q, 0, none⟩)) ∧ DlE w' w.heap.size w.heap.size dv A) ∧ (canonB A = false → dv = .pointer none) ∧ Below w.heap.size w w' := by
  have c1 := refCanon_any v A w hS hv hF hl
  have cB : Hid (canonB A = true → ∀ W, Below w.heap.size w W → Calls Tryz.prog 22 #[v] W fun r w' => ∃ q, r = .returned (.tuple #[.pointer (some ⟨q, 0, none⟩), .int .i64 0, .nilIface]) ∧ DlE w' w.heap.size w.heap.size (.pointer (some ⟨q, 0, none⟩)) A ∧ Below w.heap.size w w') := fun hc W hW => by
    obtain ⟨k1, k2, k3⟩ := canB_can hc
    have e0 := ofE_ok A 0 0 k3 (by have := k2.1; omega) (by have := k2.2; omega)
    refine (buildOf_any v A W hI (hS.below hW) (hv.below hW) hF hl (by omega)).mono ?_
    rintro r w' ⟨dv, h1, h2, -, h4⟩
    rw [e0] at h1 h2
    have hd := h2 rfl
    rw [k1.self] at hd
    obtain ⟨q, pv, PL, rfl, _⟩ := id hd
    exact ⟨q, h1, ⟨delV_low hd hW.size hW.size, k3, fun o ho => (hF o ho).fitA, Nat.le_trans hl (by decide), ht, k2⟩, hW.trans (h4.mono hW.size)⟩
  obtain ⟨D0, ⟨p, cap, rfl, _⟩, _⟩ := id hv
  obtain ⟨b, hb⟩ : ∃ x, canonB A = x := ⟨_, rfl⟩
  rw [hb] at c1 cB ⊢
  clear hS hv hF hl ht hb
  go_enter Tryz.func8, Tryz.ntmps8
  go_wp2_with fail
  refine c1.mono ?_; rintro r w2 ⟨rfl, b2⟩
  cases b with
  | false =>
    clear c1 cB
    go_wp2
    go_ret
    exact ⟨_, rfl, rfl, b2⟩
  | true =>
    have c2 := cB.out rfl w2 b2
    clear c1 cB
    go_wp2_with fail
    refine c2.mono ?_; rintro r w3 ⟨q, rfl, hd, b3⟩
    have HD := Hid.mk8 hd
    clear c2 hd b2
    go_wp2
    go_ret
    exact ⟨_, rfl, ⟨⟨q, rfl⟩, HD.out⟩, b3⟩
theorem isNo8_any (v : Value) (w : World) : Calls Tryz.prog 16 #[.pointer none, v] w fun r w' => r = .returned (.bool false) ∧ Below w.heap.size w w' := by
  go_enter Tryz.func16, Tryz.ntmps16
  go_wp2
  go_ret
  exact ⟨rfl, Below.refl _ _⟩
set_option maxHeartbeats 2000000 in
set_option maxRecDepth 100000 in
theorem is8_any {B1 B2 : Nat} (d v : Value) (E F : List Op5) (w : World) (h : DlE w B1 B2 d E) (hv : ReO w v F) (hl : F.length ≤ 2097152) (hA : ∀ e ∈ F, e.A.length ≤ 1048576) :
    Calls Tryz.prog 16 #[d, v] w fun r w' => r = .returned (.bool (decide (E = F))) ∧ Below w.heap.size w w' := by
  have c1 := ops_any d E w h.d h.g h.n (Nat.le_trans h.len (by decide))
  have c2 : Hid (∀ W v', Below w.heap.size w W → ReO W v' E → Calls Tryz.prog 31 #[v', v] W fun r w' => r = .returned (.bool (decide (E = F))) ∧ Below W.heap.size W w') := fun W v' hW h' => sameQ_any v' v E F W h' (hv.below hW) (Nat.le_trans h.len (by decide)) hl (fun e he => (h.fit e he).n) hA
  obtain ⟨q, pv, PL, rfl, _⟩ := h.d
  obtain ⟨D0, ⟨p, cap, rfl, _⟩, _⟩ := id hv
  obtain ⟨bb, hbb⟩ : ∃ x, decide (E = F) = x := ⟨_, rfl⟩
  rw [hbb] at c2 ⊢
  clear h hv hl hA hbb
  go_enter Tryz.func16, Tryz.ntmps16
  go_wp2_with fail
  refine c1.mono ?_; rintro r w2 ⟨v', rfl, hco, hb2⟩
  have c4 := c2.out w2 v' hb2 hco.re
  obtain ⟨D1, ⟨p1, c1', e1⟩, _⟩ : ∃ D1, (∃ p c, v' = .slice p D1 c) ∧ True := by
    obtain ⟨D', ⟨p', cap', e', _⟩, _⟩ := hco.re
    exact ⟨_, ⟨p', cap', e'⟩, trivial⟩
  subst e1
  clear c1 c2 hco
  go_wp2_with fail
  refine c4.mono ?_; rintro r w3 ⟨rfl, hb3⟩
  have b3 := hb2.trans (hb3.mono hb2.size)
  clear c4 hb2 hb3
  go_wp2
  go_ret
  exact ⟨rfl, b3⟩
def fixA : List Op5 := [pl7 1, delO 2]
def fixB : List Op5 := [txtO ⟨#[120]⟩]
def fixC : List Op5 := [pl7 1, txtO ⟨#[120]⟩, delO 2]
def fixD : List Op5 := [pl7 4, delO 2]
theorem fix_nil : (∀ o ∈ fixA, o.A = []) ∧ (∀ o ∈ fixB, o.A = []) ∧ (∀ o ∈ fixC, o.A = []) ∧ ∀ o ∈ fixD, o.A = [] := by
  refine ⟨fun o ho => ?_, fun o ho => ?_, fun o ho => ?_, fun o ho => ?_⟩
  · simp only [fixA, List.mem_cons, List.not_mem_nil, or_false] at ho
    rcases ho with rfl | rfl <;> rfl
  · simp only [fixB, List.mem_cons, List.not_mem_nil, or_false] at ho
    subst ho; rfl
  · simp only [fixC, List.mem_cons, List.not_mem_nil, or_false] at ho
    rcases ho with rfl | rfl | rfl <;> rfl
  · simp only [fixD, List.mem_cons, List.not_mem_nil, or_false] at ho
    rcases ho with rfl | rfl <;> rfl
theorem fix_fitA : FitL fixA := fun o ho => fit_nil (by
  simp only [fixA, List.mem_cons, List.not_mem_nil, or_false] at ho
  rcases ho with rfl | rfl <;> decide) (by
  simp only [fixA, List.mem_cons, List.not_mem_nil, or_false] at ho
  rcases ho with rfl | rfl <;> decide) (fix_nil.1 o ho)
theorem fix_fitB : FitL fixB := fun o ho => fit_nil (by
  simp only [fixB, List.mem_cons, List.not_mem_nil, or_false] at ho
  subst ho; decide) (by
  simp only [fixB, List.mem_cons, List.not_mem_nil, or_false] at ho
  subst ho; decide) (fix_nil.2.1 o ho)
theorem fix_fitC : FitL fixC := fun o ho => fit_nil (by
  simp only [fixC, List.mem_cons, List.not_mem_nil, or_false] at ho
  rcases ho with rfl | rfl | rfl <;> decide) (by
  simp only [fixC, List.mem_cons, List.not_mem_nil, or_false] at ho
  rcases ho with rfl | rfl | rfl <;> decide) (fix_nil.2.2.1 o ho)
theorem fix_fitD : FitL fixD := fun o ho => fit_nil (by
  simp only [fixD, List.mem_cons, List.not_mem_nil, or_false] at ho
  rcases ho with rfl | rfl <;> decide) (by
  simp only [fixD, List.mem_cons, List.not_mem_nil, or_false] at ho
  rcases ho with rfl | rfl <;> decide) (fix_nil.2.2.2 o ho)
theorem fix_canA : canonB fixA = true := by kernel_rfl
theorem fix_canB : canonB fixB = true := by kernel_rfl
theorem fix_cat : canonL (fixA ++ fixB) = fixC := by kernel_rfl
theorem fix_sh : shift8 fixA 3 = fixD := by
  have e : shift8 fixA 3 = canonL (pl7 3 :: fixA) := if_neg (by simp [fixA])
  exact e.trans (by kernel_rfl)
theorem fix_num : sumB fixA = 3 ∧ sumR fixA = 1 ∧ sumD8 fixA = 2 ∧ sumI8 fixB = 1 ∧ sumB fixB = 0 := by decide
theorem fix_fits : Fits8 (fixA ++ fixB) ∧ FitSh fixA 3 := by
  refine ⟨by unfold Fits8; decide, Or.inr (by decide)⟩
end Go.Proofs.YtgimcloadjjefabGreatDoor

/- vellumlaw08: fixed answers true. -/
namespace Go.Proofs.YtgimcloadjjefabGreatDoor
open Go Go.RowKit Go.Lib
set_option linter.unusedVariables false

/-- The errors that the laws ask for. -/
def IR8 : List Nat := 11 :: IxO
theorem ir8 {I : List Nat} (h : ∀ i ∈ IR8, i ∈ I) : (∀ i ∈ IxO, i ∈ I) ∧ 11 ∈ I := ⟨fun i hi => h i (List.mem_cons_of_mem _ hi), h 11 (List.mem_cons_self ..)⟩
/-- A delta of a fixed list. -/
theorem fixed_of {I : List Nat} {a : Nat → Addr} (E : List Op5) (n : Nat) (w : World) (b : Nat) (hI : ∀ i ∈ IxO, i ∈ I) (hS : Std I a w) (hn : E.length = n) (hA : ∀ o ∈ E, o.A = []) (hF : FitL E) (hl : E.length ≤ 1048576) (ht : txtS E ≤ 4194304) (hc : canonB E = true) (hb : w.heap[b]? = some (.cells (cellsO (E.map ovN)).toArray 46 (0, 0))) :
    Calls Tryz.prog 8 #[.slice (some ⟨b, 0, none⟩) n n] w fun r w' => ∃ q, r = .returned (.pointer (some ⟨q, 0, none⟩)) ∧ DlE w' w.heap.size w.heap.size (.pointer (some ⟨q, 0, none⟩)) E ∧ Below w.heap.size w w' := by
  subst hn
  refine (of8_any _ E w hI hS (re_blk hb hA) hF hl ht).mono ?_
  rintro r w' ⟨dv, rfl, h1, -, h3⟩
  obtain ⟨⟨q, rfl⟩, h2⟩ := h1 hc
  exact ⟨q, rfl, h2, h3⟩
set_option maxHeartbeats 4000000 in
set_option maxRecDepth 100000 in
theorem fixed8_any {I : List Nat} {a : Nat → Addr} (w : World) (hI : ∀ i ∈ IxO, i ∈ I) (h11 : 11 ∈ I) (hS : Std I a w) :
    Calls Tryz.prog 7 #[] w fun r w' => r = .returned (.bool true) ∧ Below w.heap.size w w' := by
  have hS' : Hid (∀ W, Below w.heap.size w W → Std I a W) := fun W h => hS.below h
  have b1 : Below w.heap.size w (w.alloc (.cells (cellsO (fixA.map ovN)).toArray 46)) := (Below.refl _ _).alloc (Nat.le_refl _) _
  have c1 := fixed_of fixA 2 _ w.heap.size hI (hS'.out _ b1) rfl fix_nil.1 fix_fitA (by decide) (by decide) fix_canA (heap_alloc_new w _)
  have cB := fun (W : World) (hW : Below w.heap.size w W) => fixed_of fixB 1 (W.alloc (.cells (cellsO (fixB.map ovN)).toArray 46)) W.heap.size hI (hS'.out _ (hW.alloc hW.size _)) rfl fix_nil.2.1 fix_fitB (by decide) (by decide) fix_canB (heap_alloc_new W _)
  have HC : Hid (∀ (W : World) (d1 d2 d3 d4 : Nat) (u v : Value), Below w.heap.size w W → DlE W d1 d2 u fixA → DlE W d3 d4 v fixB → Calls Tryz.prog 15 #[u, v] W fun r w' => ∃ q, r = .returned (.tuple #[.pointer (some ⟨q, 0, none⟩), .nilIface]) ∧ DlE w' W.heap.size W.heap.size (.pointer (some ⟨q, 0, none⟩)) fixC ∧ Below W.heap.size W w') := fun W d1 d2 d3 d4 u v hW hu hv => by
    refine (concat8_any u v fixA fixB W hI (hS'.out W hW) hu hv (by decide)).mono ?_
    rintro r w' ⟨dv, er, rfl, ⟨x1, -⟩, x3⟩
    obtain ⟨rfl, hd⟩ := x1 fix_fits.1
    rw [fix_cat] at hd
    obtain ⟨q, pv, PL, rfl, _⟩ := id hd
    exact ⟨q, rfl, ⟨hd, wel_good (by rw [← fix_cat]; exact (CanO.of (wel_app hu.wel hv.wel)).wel) (by decide), fun o ho => (fix_fitC o ho).fitA, by decide, by decide, by unfold Fits8; decide⟩, x3⟩
  have HD : Hid (∀ (W : World) (d1 d2 : Nat) (u : Value), Below w.heap.size w W → DlE W d1 d2 u fixA → Calls Tryz.prog 20 #[u, .int .i64 3] W fun r w' => ∃ q, r = .returned (.tuple #[.pointer (some ⟨q, 0, none⟩), .nilIface]) ∧ (∃ e1 e2, DlE w' e1 e2 (.pointer (some ⟨q, 0, none⟩)) fixD) ∧ Below W.heap.size W w') := fun W d1 d2 u hW hu => by
    refine (shift8_any u fixA 3 W hI h11 (hS'.out W hW) hu (by decide) (by decide)).mono ?_
    rintro r w' ⟨dv, er, rfl, ⟨-, x2⟩, x3⟩
    obtain ⟨rfl, e1, e2, hd⟩ := (x2 (by decide)).1 fix_fits.2
    rw [fix_sh] at hd
    obtain ⟨q, pv, PL, rfl, _⟩ := id hd
    exact ⟨q, rfl, ⟨e1, e2, hd, wel_good (by rw [← fix_sh]; exact (shift_units ⟨hu.wel, by kernel_rfl, by kernel_rfl⟩ (by decide) (by simp [fixA])).1.wel) (by decide), fun o ho => (fix_fitD o ho).fitA, by decide, by decide, by unfold Fits8; decide⟩, x3⟩
  have n1 := fix_num
  clear hS
  go_enter Tryz.func7, Tryz.ntmps7
  go_wp2_with fail
  refine c1.mono ?_; rintro r w2 ⟨qa, rfl, ha, b2⟩
  have hb2 := b1.trans (b2.mono b1.size)
  have HA2 := Hid.mk8 ha
  have c2 := cB w2 hb2
  clear c1 cB b1 b2 ha
  go_wp2_with fail
  refine c2.mono ?_; rintro r w3 ⟨qb, rfl, hb, b3⟩
  have ba : Below w2.heap.size w2 (w2.alloc (.cells (cellsO (fixB.map ovN)).toArray 46)) := (Below.refl _ _).alloc (Nat.le_refl _) _
  have b23 := ba.trans (b3.mono ba.size)
  have hb3 := hb2.trans (b23.mono hb2.size)
  have HA3 := Hid.mk8 (HA2.out.below b23)
  have HB3 := Hid.mk8 hb
  have c3 := base8_any _ _ w3 HA3.out
  rw [n1.1] at c3
  clear c2 hb2 b23 ba b3 hb HA2
  go_wp2_with fail
  refine c3.mono ?_; rintro r w4 ⟨rfl, b4⟩
  have hb4 := hb3.trans (b4.mono hb3.size)
  have HA4 := Hid.mk8 (HA3.out.below b4)
  have HB4 := Hid.mk8 (HB3.out.below b4)
  have c4 := result8_any _ _ w4 HA4.out
  rw [n1.2.1] at c4
  clear c3 hb3 b4 HA3 HB3
  go_wp2_with fail
  refine c4.mono ?_; rintro r w5 ⟨rfl, b5⟩
  have hb5 := hb4.trans (b5.mono hb4.size)
  have HA5 := Hid.mk8 (HA4.out.below b5)
  have HB5 := Hid.mk8 (HB4.out.below b5)
  have c5 := dl8_any _ _ w5 HA5.out
  rw [n1.2.2.1] at c5
  clear c4 hb4 b5 HA4 HB4
  go_wp2_with fail
  refine c5.mono ?_; rintro r w6 ⟨rfl, b6⟩
  have hb6 := hb5.trans (b6.mono hb5.size)
  have HA6 := Hid.mk8 (HA5.out.below b6)
  have HB6 := Hid.mk8 (HB5.out.below b6)
  have c6 := ins8_any _ _ w6 HB6.out
  rw [n1.2.2.2.1] at c6
  clear c5 hb5 b6 HA5 HB5
  go_wp2_with fail
  refine c6.mono ?_; rintro r w7 ⟨rfl, b7⟩
  have hb7 := hb6.trans (b7.mono hb6.size)
  have HA7 := Hid.mk8 (HA6.out.below b7)
  have HB7 := Hid.mk8 (HB6.out.below b7)
  have c7 := doc8_any _ _ w7 HB7.out
  rw [n1.2.2.2.2] at c7
  clear c6 hb6 b7 HA6 HB6
  go_wp2_with fail
  refine c7.mono ?_; rintro r w8 ⟨rfl, b8⟩
  have hb8 := hb7.trans (b8.mono hb7.size)
  have HA8 := Hid.mk8 (HA7.out.below b8)
  have HB8 := Hid.mk8 (HB7.out.below b8)
  have c8 := doc8_any _ _ w8 HA8.out
  rw [n1.1] at c8
  clear c7 hb7 b8 HA7 HB7
  go_wp2_with fail
  refine c8.mono ?_; rintro r w9 ⟨rfl, b9⟩
  have hb9 := hb8.trans (b9.mono hb8.size)
  have HA9 := Hid.mk8 (HA8.out.below b9)
  have HB9 := Hid.mk8 (HB8.out.below b9)
  have c9 := HC.out w9 _ _ _ _ _ _ hb9 HA9.out HB9.out
  clear c8 hb8 b9 HA8 HB8
  go_wp2_with fail
  refine c9.mono ?_; rintro r wA ⟨qc, rfl, hc, bA⟩
  have hbA := hb9.trans (bA.mono hb9.size)
  have HAA := Hid.mk8 (HA9.out.below bA)
  have HCA := Hid.mk8 hc
  have cA := HD.out wA _ _ _ hbA HAA.out
  clear c9 hb9 bA hc HA9 HB9 HC
  go_wp2_with fail
  refine cA.mono ?_; rintro r wB ⟨qd, rfl, ⟨e1, e2, hd⟩, bB⟩
  have hbB := hbA.trans (bB.mono hbA.size)
  have HDB := Hid.mk8 hd
  have HCB := Hid.mk8 (HCA.out.below bB)
  have bc : Below wB.heap.size wB (wB.alloc (.cells (cellsO (fixC.map ovN)).toArray 46)) := (Below.refl _ _).alloc (Nat.le_refl _) _
  have cI := is8_any _ (.slice (some ⟨wB.heap.size, 0, none⟩) 3 3) fixC fixC (wB.alloc (.cells (cellsO (fixC.map ovN)).toArray 46)) (HCB.out.below bc) (re_blk (heap_alloc_new wB _) fix_nil.2.2.1) (by decide) (fun e he => by rw [fix_nil.2.2.1 e he]; decide)
  rw [decide_eq_true rfl] at cI
  clear cA hbA bB hd HAA HCA HD
  go_wp2_with fail
  refine cI.mono ?_; rintro r wC ⟨rfl, bC⟩
  have hbC := (hbB.trans (bc.mono hbB.size)).trans (bC.mono (Nat.le_trans hbB.size bc.size))
  have HDC := Hid.mk8 ((HDB.out.below bc).below bC)
  have bd : Below wC.heap.size wC (wC.alloc (.cells (cellsO (fixD.map ovN)).toArray 46)) := (Below.refl _ _).alloc (Nat.le_refl _) _
  have cJ := is8_any _ (.slice (some ⟨wC.heap.size, 0, none⟩) 2 2) fixD fixD (wC.alloc (.cells (cellsO (fixD.map ovN)).toArray 46)) (HDC.out.below bd) (re_blk (heap_alloc_new wC _) fix_nil.2.2.2) (by decide) (fun e he => by rw [fix_nil.2.2.2 e he]; decide)
  rw [decide_eq_true rfl] at cJ
  clear cI hbB bC HDB HCB bc
  go_wp2_with fail
  refine cJ.mono ?_; rintro r wD ⟨rfl, bD⟩
  have hbD := (hbC.trans (bd.mono hbC.size)).trans (bD.mono (Nat.le_trans hbC.size bd.size))
  clear cJ hbC bD HDC bd
  go_wp2
  go_ret
  exact ⟨rfl, hbD⟩
end Go.Proofs.YtgimcloadjjefabGreatDoor

/- Canonical lists of operations in order are in order. -/
namespace Go.Proofs.YtgimcloadjjefabGreatDoor
open Go Go.RowKit Go.Lib
set_option linter.unusedVariables false

theorem trim_sub (P : List Op5) : (∀ x ∈ trimL P, x ∈ P) ∧ txtS (trimL P) ≤ txtS P ∧ (trimL P).length ≤ P.length := by
  rcases List.eq_nil_or_concat P with rfl | ⟨F, x, rfl⟩
  · exact ⟨fun x h => h, Nat.le_refl _, Nat.le_refl _⟩
  · rw [List.concat_eq_append]
    have e : trimL (F ++ [x]) = if plainR x then F else F ++ [x] := by
      unfold trimL
      rw [List.getLast?_concat, List.dropLast_concat]
    rw [e]
    split
    · exact ⟨fun y h => List.mem_append_left _ h, by rw [txtS_append]; omega, by simp⟩
    · exact ⟨fun y h => h, Nat.le_refl _, Nat.le_refl _⟩
/-- The canonical list of operations in order is in order, and no greater. -/
theorem canon_ok {E : List Op5} (h : OkE E) : OkE (canonL E) ∧ txtS (canonL E) ≤ txtS E ∧ (canonL E).length ≤ E.length := by
  have hz : BSz (bldR E) E.length (txtS E) := by
    have := bldR_sz E BSz.nil h.fit
    rw [Nat.zero_add, Nat.zero_add] at this
    exact this
  obtain ⟨c1, c2, c3, c4⟩ := canon_spec h.wel
  obtain ⟨s1, s2⟩ := canon_sums h.wel
  have key : (∀ x ∈ canonL E, FitA x) ∧ txtS (canonL E) ≤ txtS E ∧ (canonL E).length ≤ E.length := by
    rw [← finB_canon h.wel]
    obtain ⟨a, b, c⟩ := hz.set
    have a2 := hz.fit
    have b2 := hz.txt
    have c2 := hz.len
    unfold finB
    by_cases h0 : 0 < (bldR E).2
    · rw [if_pos h0]
      unfold setB at a b c
      rw [if_pos h0] at a b c
      exact ⟨a, b, c⟩
    · rw [if_neg h0]
      obtain ⟨t1, t2, t3⟩ := trim_sub (bldR E).1
      exact ⟨fun x hx => a2 x (t1 x hx), by omega, by omega⟩
  have hb := h.base
  have hr := h.res
  have ht := h.txt
  have hl := h.len
  exact ⟨⟨wel_good c1 (by omega), key.1, by omega, by omega, by omega, by omega⟩, key.2⟩
theorem OkE.okR {E : List Op5} (h : OkE E) (hl : E.length ≤ 2097152) : OkR E := ⟨fun o ho => (h.fit o ho).n, hl⟩
theorem OkE.fitL {E : List Op5} (h : OkE E) : FitL E := fitA_all h.fit h.txt
/-- A list that isn't large. -/
theorem small_of {E : List Op5} (h : decide (60000 < larN E) = false) : txtS E ≤ 60000 ∧ E.length ≤ 6000 ∧ ∀ o ∈ E, o.A.length ≤ 6000 := by
  have h1 := of_decide_eq_false h
  have h2 := larN_txt E
  exact ⟨by omega, by omega, fun o ho => by have := larN_mem ho; omega⟩
/-- What a loop over a list of the call's own and over a row of pieces reads. -/
theorem both_read {w : World} {B1 B2 : Nat} {v1 v2 : Value} {P : List Value} {C : List Op5} (h1 : CoO w B1 v1 C) (h2 : OwnI w B2 v2 P) (h3 : PieD w B2 P C) :
    ∃ p1 c1 p2 c2, v1 = .slice p1 C.length c1 ∧ v2 = .slice p2 C.length c2 ∧ ∀ m, m < C.length → ∃ (e : Op5) (d : OV) (b ga : Nat) (s : Value), C[m]? = some e ∧ p1 = some ⟨b, 0, none⟩ ∧ OpAt w b (0 + m * 7) d ∧ ovV d = opV e (slV d.2.2.2.2) ∧ d.1 = e.k ∧ OwnA w B1 (slV d.2.2.2.2) e.A ∧ p2 = some ⟨ga, 0, none⟩ ∧ w.cell? ⟨ga, m, none⟩ = some (pieceQ e s) ∧ OwnA w B2 s e.A := by
  obtain ⟨D, hD, hO⟩ := h1
  have hl1 := forall2_len hO
  have hl2 := forall2_len h3
  obtain ⟨p1, c1, e1⟩ := own_slice hD
  obtain ⟨p2, c2, e2⟩ := own_slice h2
  refine ⟨p1, c1, p2, c2, by rw [e1, hl1], by rw [e2, hl2], fun m hm => ?_⟩
  obtain ⟨ga, c, x, hv', hB, hx, hc⟩ := own_cell h2 m (by omega)
  obtain ⟨e, s, he, rfl, hs⟩ := oneI h3 hx
  rw [e2] at hv'
  simp only [Value.slice.injEq] at hv'
  have hd : D[m]? = some (D[m]'(by omega)) := List.getElem?_eq_getElem (by omega)
  obtain ⟨y, hy, r⟩ := forall2_get hO m _ hd
  obtain rfl : y = e := Option.some.inj (hy.symm.trans he)
  rcases hD.2 with ⟨_, h0⟩ | ⟨g, cap, cur, e3, _, _, _, _, _, _⟩
  · omega
  · rw [e1] at e3
    simp only [Value.slice.injEq] at e3
    have hD' := hD
    unfold OwnO at hD'
    rw [e1, e3.1] at hD'
    have hat := own_opAt hD' m _ hd
    exact ⟨y, D[m]'(by omega), g, ga, s, he, e3.1, hat, opV_of ⟨r.1, r.2.1, r.2.2.1, r.2.2.2.1, own_RN r.2.2.2.2⟩, r.1, r.2.2.2.2, hv'.1, hc, hs⟩
end Go.Proofs.YtgimcloadjjefabGreatDoor

/- A delta of a list made canonical. -/
namespace Go.Proofs.YtgimcloadjjefabGreatDoor
open Go Go.RowKit Go.Lib
set_option linter.unusedVariables false

theorem dle_of {w' : World} {C1 C2 : Nat} {dv : Value} {L : List Op5} (hd : DelV w' C1 C2 dv (canonL L)) (hg : ∀ o ∈ L, opE o = 0) (hfit : ∀ o ∈ L, FitA o) (hlen : L.length ≤ 2097152) (ht : txtS L ≤ 4194304) (hf : Fits8 L) : DlE w' C1 C2 dv (canonL L) ∧ (canonL L).length ≤ L.length ∧ txtS (canonL L) ≤ txtS L := by
  obtain ⟨k1, k2, k3⟩ := canon_ok (E := L) ⟨hg, hfit, by omega, by omega, hf.1, hf.2⟩
  exact ⟨⟨hd, k1.good, k1.fit, by omega, by omega, k1.base, k1.res⟩, by omega, by omega⟩
end Go.Proofs.YtgimcloadjjefabGreatDoor

/- The errors' numbers: what vellumnum.list and vellumnum.Num answer where all nineteen sentinels lie as laid. -/
namespace Go.Proofs.YtgimcloadjjefabGreatDoor
open Go Go.RowKit
set_option linter.unusedVariables false

/-- All nineteen. -/
def all19 : List Nat := List.range 19
abbrev Sent (a : Nat → Addr) (w : World) : Prop := Er all19 a w
theorem in19 {i : Nat} (h : i < 19) : i ∈ all19 := List.mem_range.2 h
def errA (a : Nat → Addr) : Array Value := #[errV a 0, errV a 1, errV a 2, errV a 3, errV a 4, errV a 5, errV a 6, errV a 7, errV a 8, errV a 9, errV a 10, errV a 11, errV a 12, errV a 13, errV a 14, errV a 15, errV a 16, errV a 17, errV a 18]

theorem wl_build (a : Nat → Addr) {ops : Array Oper} {rest : List Oper} {o : Oper} {A : Act} {w : World} {Q : Exit → Act → World → Prop} (hg : o.guard = none) (parts : Array (Nat × Operand)) (ho : o.op = .build 68 parts)
    (hp : (parts.map fun (i, x) => (i, A.eval x)) = #[(0, errV a 0), (1, errV a 1), (2, errV a 2), (3, errV a 3), (4, errV a 4), (5, errV a 5), (6, errV a 6), (7, errV a 7), (8, errV a 8), (9, errV a 9), (10, errV a 10), (11, errV a 11), (12, errV a 12), (13, errV a 13), (14, errV a 14), (15, errV a 15), (16, errV a 16), (17, errV a 17), (18, errV a 18)])
    (h : wpList Tryz.prog ops Q rest (A.put o.dst (.agg (errA a))) w) : wpList Tryz.prog ops Q (o :: rest) A w := by
  have hb : Tryz.prog.built 68 (parts.map fun (i, x) => (i, A.eval x)).toList = some (errA a) := by rw [hp]; kernel_rfl
  refine wpList_build hg 68 parts ho (by rw [hb]; rfl) ?_
  rw [hb]; exact h

theorem alloc_setRow (w : World) (old cs : Array Value) (t : TypeId) : (w.alloc (.cells old t)).setRow w.heap.size cs = w.alloc (.cells cs t) := by
  have : ((w.heap.push (.cells old t)).modify w.heap.size fun | .cells _ t f => .cells cs t f | o => o) = w.heap.push (.cells cs t) := by
    apply Array.ext
    · simp
    · intro i h1 h2
      rw [Array.getElem_modify]
      by_cases hi : w.heap.size = i
      · subst hi; simp
      · rw [if_neg hi]
        have : i < w.heap.size := by simp at h2; omega
        simp [Array.getElem_push, this]
  show { w with heap := (w.heap.push (.cells old t)).modify w.heap.size _ } = { w with heap := w.heap.push _ }
  rw [← this]; rfl

theorem wl_store (a : Nat → Addr) {ops : Array Oper} {rest : List Oper} {o : Oper} {A : Act} {w : World} {Q : Exit → Act → World → Prop} {old : Array Value} (hg : o.guard = none) (x y : Operand) (ho : o.op = .store 68 x y)
    (hx : A.eval x = .pointer (some ⟨w.heap.size, 0, none⟩)) (hy : A.eval y = .agg (errA a)) (hold : old.size = 19)
    (h : wpList Tryz.prog ops Q rest (A.put o.dst undef) (w.alloc (.cells (errA a) 68))) : wpList Tryz.prog ops Q (o :: rest) A (w.alloc (.cells old 68)) := by
  refine wpList_store_row hg 68 x y ho w.heap.size (errA a) hx hy 68 old (by show (w.heap.push _)[w.heap.size]? = _; simp) (by kernel_rfl) (by rw [hold]; rfl) (by kernel_rfl) ?_
  rw [alloc_setRow]; exact h

set_option maxHeartbeats 400000 in
set_option maxRecDepth 100000 in
theorem list_any (a : Nat → Addr) (w : World) (h : ∀ i, i < 19 → w.cell? ⟨[2, 3, 4, 5, 6, 7, 8, 9, 0, 10, 11, 1, 12, 13, 14, 15, 16, 17, 18].getD i 0, 0, none⟩ = some (errV a i)) :
    Calls Tryz.prog 34 #[] w fun e w' => e = .returned (.agg (errA a)) ∧ Below w.heap.size w w' := by
  have h0 : w.cell? ⟨2, 0, none⟩ = some (errV a 0) := h 0 (by omega)
  have h1 : w.cell? ⟨3, 0, none⟩ = some (errV a 1) := h 1 (by omega)
  have h2 : w.cell? ⟨4, 0, none⟩ = some (errV a 2) := h 2 (by omega)
  have h3 : w.cell? ⟨5, 0, none⟩ = some (errV a 3) := h 3 (by omega)
  have h4 : w.cell? ⟨6, 0, none⟩ = some (errV a 4) := h 4 (by omega)
  have h5 : w.cell? ⟨7, 0, none⟩ = some (errV a 5) := h 5 (by omega)
  have h6 : w.cell? ⟨8, 0, none⟩ = some (errV a 6) := h 6 (by omega)
  have h7 : w.cell? ⟨9, 0, none⟩ = some (errV a 7) := h 7 (by omega)
  have h8 : w.cell? ⟨0, 0, none⟩ = some (errV a 8) := h 8 (by omega)
  have h9 : w.cell? ⟨10, 0, none⟩ = some (errV a 9) := h 9 (by omega)
  have h10 : w.cell? ⟨11, 0, none⟩ = some (errV a 10) := h 10 (by omega)
  have h11 : w.cell? ⟨1, 0, none⟩ = some (errV a 11) := h 11 (by omega)
  have h12 : w.cell? ⟨12, 0, none⟩ = some (errV a 12) := h 12 (by omega)
  have h13 : w.cell? ⟨13, 0, none⟩ = some (errV a 13) := h 13 (by omega)
  have h14 : w.cell? ⟨14, 0, none⟩ = some (errV a 14) := h 14 (by omega)
  have h15 : w.cell? ⟨15, 0, none⟩ = some (errV a 15) := h 15 (by omega)
  have h16 : w.cell? ⟨16, 0, none⟩ = some (errV a 16) := h 16 (by omega)
  have h17 : w.cell? ⟨17, 0, none⟩ = some (errV a 17) := h 17 (by omega)
  have h18 : w.cell? ⟨18, 0, none⟩ = some (errV a 18) := h 18 (by omega)
  have z0 : 2 < w.heap.size := lt_of_cell h0
  have z1 : 3 < w.heap.size := lt_of_cell h1
  have z2 : 4 < w.heap.size := lt_of_cell h2
  have z3 : 5 < w.heap.size := lt_of_cell h3
  have z4 : 6 < w.heap.size := lt_of_cell h4
  have z5 : 7 < w.heap.size := lt_of_cell h5
  have z6 : 8 < w.heap.size := lt_of_cell h6
  have z7 : 9 < w.heap.size := lt_of_cell h7
  have z8 : 0 < w.heap.size := lt_of_cell h8
  have z9 : 10 < w.heap.size := lt_of_cell h9
  have z10 : 11 < w.heap.size := lt_of_cell h10
  have z11 : 1 < w.heap.size := lt_of_cell h11
  have z12 : 12 < w.heap.size := lt_of_cell h12
  have z13 : 13 < w.heap.size := lt_of_cell h13
  have z14 : 14 < w.heap.size := lt_of_cell h14
  have z15 : 15 < w.heap.size := lt_of_cell h15
  have z16 : 16 < w.heap.size := lt_of_cell h16
  have z17 : 17 < w.heap.size := lt_of_cell h17
  have z18 : 18 < w.heap.size := lt_of_cell h18
  clear h
  go_enter Tryz.func34, Tryz.ntmps34
  go_wp2_with (first | (refine wl_build a rfl _ rfl (by kernel_rfl) ?_) | (refine wl_store a rfl _ _ rfl (by kernel_rfl) (by kernel_rfl) (by kernel_rfl) ?_))
  have hl := run_loadVar_new (P := Tryz.prog) w 68 (errA a) 19 31 Tryz.underlying68 (by kernel_rfl)
  refine bodyPost_ret (v := .agg (errA a)) ?_ rfl ⟨rfl, (Below.refl _ _).alloc (Nat.le_refl _) _⟩
  simp only [results, Tryz.results34]
  simp [asAddr, Act.put, hl]

theorem errA_get (a : Nat → Addr) (k : Nat) (hk : k < 19) : (errA a)[k]? = some (errV a k) := by
  have e : errA a = ((List.range 19).map (errV a)).toArray := rfl
  rw [e]
  simp [hk]

theorem index_arr {A : Array Value} {k : Nat} {v : Value} (hk : k < 19) (hA : A[k]? = some v) (w : World) : (Instr.index 68 (.agg A) (.int .i64 k)).run Tryz.prog w = .ok v w := by
  obtain ⟨i, hi, hs⟩ := Option.map_eq_some_iff.1 (show (Tryz.prog.info? 31).map (·.size) = some 1 by kernel_rfl)
  have hk2 : (0 : Int) ≤ k ∧ (k : Int) < 19 := by omega
  simp [Instr.index, run_underlying Tryz.underlying68, asIntOf, hk2, sizeOf, typeInfo, hi, hs, part, hA]
  omega

theorem num_nil (w : World) : Calls Tryz.prog 19 #[.nilIface] w fun e w' => e = .returned (.int .i64 0) ∧ w' = w := by
  go_enter Tryz.func19, Tryz.ntmps19
  go_wp2
  go_ret
  exact ⟨rfl, rfl⟩

set_option maxHeartbeats 400000 in
theorem num_err {a : Nat → Addr} {w : World} (h : Sent a w) (n : Nat) (hn : n < 19) :
    Calls Tryz.prog 19 #[errV a n] w fun e w' => e = .returned (.int .i64 (n + 1)) ∧ Below w.heap.size w w' := by
  have hcell : ∀ i, i < 19 → w.cell? ⟨[2, 3, 4, 5, 6, 7, 8, 9, 0, 10, 11, 1, 12, 13, 14, 15, 16, 17, 18].getD i 0, 0, none⟩ = some (errV a i) := fun i hi => h.cell i (in19 hi)
  have hnil := eql_nil a n
  have hsame := eql_same a n
  obtain ⟨A, hA⟩ : ∃ A, A = errA a := ⟨_, rfl⟩
  have hAs : A.size = 19 := by rw [hA]; rfl
  have hAg : ∀ k, k < 19 → A[k]? = some (errV a k) := by rw [hA]; exact errA_get a
  go_enter Tryz.func19, Tryz.ntmps19
  go_wp2_with (go_at_call 34; refine (list_any a _ hcell).mono ?_; rintro e w1 ⟨rfl, hb⟩; have h1 := h.below hb; clear hcell h hnil; rw [← hA]; clear hA)
  go_loop [8] (fun i => ∃ k : Nat, k ≤ n ∧ i = .int .i64 k) (fun i => 19 - (intOf i).toNat)
  case atStart => exact ⟨0, Nat.zero_le _, rfl⟩
  case round =>
    obtain ⟨k, hk, rfl⟩ := hrel
    have hAk := hAg k (by omega)
    have hk9 : (k : Int) < 19 := by omega
    have hix := index_arr (A := A) (by omega : k < 19) hAk
    clear hAg hAk
    by_cases hlt : k < n
    · have he := eql_other h1 n k (in19 hn) (in19 (by omega)) (by omega)
      clear h1 hsame
      go_wp2
      go_round
      case rel => exact ⟨k + 1, by omega, by go_num⟩
      case measure => simp [intOf]; omega
    · obtain rfl : k = n := by omega
      clear h1
      go_wp2
      go_ret
      exact ⟨rfl, hb⟩

theorem num_of {a : Nat → Addr} {w : World} (h : Sent a w) (e : Nat) (he : e ≤ 19) :
    Calls Tryz.prog 19 #[errOf a e] w fun r w' => r = .returned (.int .i64 e) ∧ Below w.heap.size w w' := by
  cases e with
  | zero => exact (num_nil w).mono fun r w' ⟨h1, h2⟩ => ⟨h1, by rw [h2]; exact Below.refl _ _⟩
  | succ n => rw [errOf_succ]; exact num_err h n (by omega)
end Go.Proofs.YtgimcloadjjefabGreatDoor

/- Deltas of lists made canonical; of all arguments vellumlaw08.MeasureShifts answers true. -/
namespace Go.Proofs.YtgimcloadjjefabGreatDoor
open Go Go.RowKit Go.Lib
set_option linter.unusedVariables false

theorem shift_dle {w w' : World} {B1 B2 C1 C2 : Nat} {v dv : Value} {E : List Op5} {n : Int} (h : DlE w B1 B2 v E) (hn : 0 ≤ n ∧ n ≤ 1099511627776) (hl : E.length + 1 ≤ 2097152) (hf : FitSh E n) (hd : DelV w' C1 C2 dv (shift8 E n)) : DlE w' C1 C2 dv (shift8 E n) ∧ (shift8 E n).length ≤ E.length + 1 ∧ txtS (shift8 E n) ≤ txtS E := by
  by_cases hz : n = 0 ∨ E = []
  · have e : shift8 E n = E := if_pos hz
    rw [e] at hd ⊢
    exact ⟨⟨hd, h.g, h.fit, h.len, h.txt, h.fits⟩, by omega, Nat.le_refl _⟩
  · have e : shift8 E n = canonL (pl7 n :: E) := if_neg hz
    rw [e] at hd ⊢
    have h0 : E ≠ [] := fun h => hz (Or.inr h)
    have ht : txtS (pl7 n :: E) = txtS E := by rw [txtS_cons]; show 0 + _ = _; omega
    obtain ⟨k1, k2, k3⟩ := dle_of hd (fun o ho => (List.mem_cons.1 ho).elim (fun e => e ▸ (pl_good (by omega) (by omega)).1) (h.g o)) (fun o ho => (List.mem_cons.1 ho).elim (fun e => e ▸ pl_fit n) (h.fit o)) (by simpa using hl) (by rw [ht]; exact h.txt) ((fits_sh h0).2 hf)
    exact ⟨k1, by simpa using k2, by rw [← ht]; exact k3⟩
theorem co_slice {w : World} {B : Nat} {v : Value} {E : List Op5} (h : CoO w B v E) : ∃ p n c, v = .slice p n c := by
  obtain ⟨D, ⟨p, c, e, _⟩, _⟩ := h.re
  exact ⟨p, _, c, e⟩
theorem m39 (x : Int) : ∃ M : Int, wrap64 ((IntKind.u64.wrap x).tmod 549755813888) = M ∧ 0 ≤ M ∧ M < 549755813888 := by
  obtain ⟨U, hU⟩ : ∃ U, IntKind.u64.wrap x = U := ⟨_, rfl⟩
  have h0 : 0 ≤ U := by
    rw [← hU, IntKind.wrap_u64]; omega
  rw [hU]
  have h1 := Int.tmod_lt_of_pos U (show (0 : Int) < 549755813888 by omega)
  have h2 : 0 ≤ U.tmod 549755813888 := Int.tmod_nonneg _ h0
  exact ⟨_, rfl, by unfold wrap64; omega, by unfold wrap64; omega⟩
theorem sh_canon {E : List Op5} (h : canonB E = true) : CanO E := (canB_can h).1
set_option maxHeartbeats 8000000 in
set_option maxRecDepth 100000 in
theorem measureShifts_any {I : List Nat} {a : Nat → Addr} (va : Value) (x1 x2 : Int) (A : List Op5) (w : World) (hJ : ∀ i ∈ IR8, i ∈ I) (hS : Std I a w) (hN : Sent a w) (ra : ReO w va A) (fA : FitL A) (lA : A.length + 1 ≤ 1048576) (tA : txtS A ≤ 1048576) (i1 : -9223372036854775808 ≤ x1 ∧ x1 ≤ 9223372036854775807) (i2 : -9223372036854775808 ≤ x2 ∧ x2 ≤ 9223372036854775807) :
    Calls Tryz.prog 6 #[va, .int .i64 x1, .int .i64 x2] w fun r w' => r = .returned (.bool true) ∧ Below w.heap.size w w' := by
  obtain ⟨hI, h11⟩ := ir8 hJ
  have cF := fixed8_any w hI h11 hS
  have cO : Hid (∀ W, Below w.heap.size w W → Calls Tryz.prog 8 #[va] W fun r w' => ∃ dv, r = .returned dv ∧ (canonB A = true → (∃ q, dv = .pointer (some ⟨q, 0, none⟩)) ∧ DlE w' W.heap.size W.heap.size dv A) ∧ (canonB A = false → dv = .pointer none) ∧ Below W.heap.size W w') := fun W hW => of8_any va A W hI (hS.below hW) (ra.below hW) fA (by omega) (by omega)
  have cN : Hid (∀ e, e ≤ 19 → ∀ W, Below w.heap.size w W → Calls Tryz.prog 19 #[errOf a e] W fun r w' => r = .returned (.int .i64 e) ∧ Below W.heap.size W w') := fun e he W hW => num_of (hN.below hW) e he
  have cS : Hid (∀ (E : List Op5) (u : Value) (B1 B2 : Nat) (n : Int) W, Below w.heap.size w W → DlE W B1 B2 u E → E.length + 1 ≤ 2097152 → 0 ≤ n ∧ n ≤ 1099511627776 → Calls Tryz.prog 20 #[u, .int .i64 n] W fun r w' => ∃ dv er, r = .returned (.tuple #[dv, er]) ∧ (FitSh E n → er = .nilIface ∧ (∃ q, dv = .pointer (some ⟨q, 0, none⟩)) ∧ ∃ C1 C2, DlE w' C1 C2 dv (shift8 E n)) ∧ (¬ FitSh E n → er = errV a 10 ∧ dv = .pointer none) ∧ Below W.heap.size W w') := fun E u B1 B2 n W hW hE hl hn => by
    refine (shift8_any u E n W hI h11 (hS.below hW) hE hl (by omega)).mono ?_
    rintro r w' ⟨dv, er, rfl, ⟨-, y2⟩, y3⟩
    obtain ⟨z1, z2⟩ := y2 (by omega)
    refine ⟨dv, er, rfl, fun h => ?_, z2, y3⟩
    obtain ⟨e1, C1, C2, hd⟩ := z1 h
    obtain ⟨q, pv, PL, e, _⟩ := id hd
    exact ⟨e1, ⟨q, e⟩, C1, C2, (shift_dle hE hn hl h hd).1⟩
  have cI : Hid (∀ (E F : List Op5) (u v : Value) (B1 B2 : Nat) W, DlE W B1 B2 u E → ReO W v F → F.length ≤ 2097152 → (∀ e ∈ F, e.A.length ≤ 1048576) → Calls Tryz.prog 16 #[u, v] W fun r w' => r = .returned (.bool (decide (E = F))) ∧ Below W.heap.size W w') := fun E F u v B1 B2 W h1 h2 h3 h4 => is8_any u v E F W h1 h2 h3 h4
  have HA : Hid (∀ W, Below w.heap.size w W → ReO W va A) := fun W hW => ra.below hW
  have HF : Hid (FitL A ∧ A.length + 1 ≤ 1048576) := ⟨fA, lA⟩
  obtain ⟨D0, ⟨p, cap, rfl, _⟩, hre0⟩ := id ra
  have HDl : Hid (D0.length = A.length) := forall2_len hre0
  obtain ⟨M, hM, m0, m1⟩ := m39 x1
  obtain ⟨N, hN', n0, n1⟩ := m39 x2
  clear hI h11 hJ hS hN ra fA lA tA i1 i2
  go_enter Tryz.func6, Tryz.ntmps6
  go_wp2_with fail
  refine cF.mono ?_; rintro r w1 ⟨rfl, b1⟩
  have c1 := cO.out w1 b1
  clear cF cO
  go_wp2_with fail
  refine c1.mono ?_; rintro r w2 ⟨dv, rfl, h1, h0, b2⟩
  have hb2 := b1.trans (b2.mono b1.size)
  clear c1 b1 b2
  by_cases hc : canonB A = true
  · obtain ⟨⟨q, rfl⟩, hd⟩ := h1 hc
    have HD2 := Hid.mk8 hd
    have HC := Hid.mk8 (sh_canon hc)
    -- GEN
    clear h1 h0 hc hd
    have c1 := cS.out A _ _ _ 0 w2 hb2 HD2.out (by have := HF.out.2; omega) (by omega)
    go_wp2_with fail
    refine c1.mono ?_; rintro r w1 ⟨dv, er, rfl, y1, -, b1⟩
    have hb1 := hb2.trans (b1.mono hb2.size)
    have HD_1 := Hid.mk8 (HD2.out.below b1)
    obtain ⟨rfl, ⟨q0, rfl⟩, C1, C2, hd0⟩ := y1 (Or.inr (by have := HD_1.out.fits; unfold Fits8 at this; omega))
    rw [show shift8 A 0 = A from if_pos (Or.inl rfl)] at hd0
    have HZ_1 := Hid.mk8 (hd0)
    clear c1 b1 hb2 HD2 y1 hd0
    have c2 := cI.out A A _ (.slice p D0.length cap) _ _ w1 HZ_1.out (HA.out w1 hb1) (by have := HF.out.2; omega) (fun e he => (HF.out.1 e he).n)
    rw [decide_eq_true rfl] at c2
    go_wp2_with fail
    refine c2.mono ?_; rintro r w2 ⟨rfl, b2⟩
    have hb2 := hb1.trans (b2.mono hb1.size)
    have HD_2 := Hid.mk8 (HD_1.out.below b2)
    have HZ_2 := Hid.mk8 (HZ_1.out.below b2)
    clear c2 b2 hb1 HD_1 HZ_1
    have hMN : IntKind.i64.wrap (M + N) = M + N := by rw [IntKind.wrap_i64]; omega
    by_cases hfit : FitSh A (M + N)
    · have hfM : FitSh A M := hfit.imp id (fun h => by have := sums_nn HD_2.out.wel; omega)
      have ca3 := cS.out A _ _ _ (M) w2 hb2 HD_2.out (by have := HF.out.2; omega) (by omega)
      go_wp2_with fail
      refine ca3.mono ?_; rintro r wa3 ⟨dv, er, rfl, y1, -, ba3⟩
      have hba3 := hb2.trans (ba3.mono hb2.size)
      have HD_a3 := Hid.mk8 (HD_2.out.below ba3)
      obtain ⟨rfl, ⟨q5, rfl⟩, C1, C2, hd0⟩ := y1 hfM
      have HO_a3 := Hid.mk8 (hd0)
      clear ca3 ba3 hb2 HD_2 y1 hd0
      have hO2 := (shift_dle HD_a3.out (n := M) (by omega) (by have := HF.out.2; omega) hfM HO_a3.out.d).2.1
      have ca4 := cS.out A _ _ _ (M + N) wa3 hba3 HD_a3.out (by have := HF.out.2; omega) (by omega)
      go_wp2_with fail
      refine ca4.mono ?_; rintro r wa4 ⟨dv, er, rfl, y1, -, ba4⟩
      have hba4 := hba3.trans (ba4.mono hba3.size)
      have HD_a4 := Hid.mk8 (HD_a3.out.below ba4)
      have HO_a4 := Hid.mk8 (HO_a3.out.below ba4)
      obtain ⟨rfl, ⟨q6, rfl⟩, C1, C2, hd0⟩ := y1 hfit
      have HB_a4 := Hid.mk8 (hd0)
      clear ca4 ba4 hba3 HD_a3 HO_a3 y1 hd0
      by_cases hnil : A = []
      · have hz : ¬ ((D0.length : Int) > 0) := by rw [HDl.out, hnil]; simp
        have hzb : ((D0.length : Int) == 0) = true := by rw [HDl.out, hnil]; rfl
        have e2 : shift8 (shift8 A M) N = shift8 A (M + N) := shift_two HC.out m0 n0
        have hf2 : FitSh (shift8 A M) N := Or.inl (by rw [hnil]; exact if_pos (Or.inr rfl))
        clear hfit hfM hnil
        have cn5 := cS.out (shift8 A M) _ _ _ (N) wa4 hba4 HO_a4.out (by have := HF.out.2; omega) (by omega)
        go_wp2_with fail
        refine cn5.mono ?_; rintro r wn5 ⟨dv, er, rfl, y1, -, bn5⟩
        have hbn5 := hba4.trans (bn5.mono hba4.size)
        have HD_n5 := Hid.mk8 (HD_a4.out.below bn5)
        have HO_n5 := Hid.mk8 (HO_a4.out.below bn5)
        have HB_n5 := Hid.mk8 (HB_a4.out.below bn5)
        obtain ⟨rfl, ⟨q7, rfl⟩, C1, C2, hd0⟩ := y1 hf2
        have HT_n5 := Hid.mk8 (hd0)
        clear cn5 bn5 hba4 HD_a4 HO_a4 HB_a4 y1 hd0
        have cn6 := num_nil wn5
        go_wp2_with fail
        refine cn6.mono ?_; rintro r wq ⟨rfl, hwq⟩; obtain rfl := hwq.symm
        clear cn6
        have cn7 := num_nil wn5
        go_wp2_with fail
        refine cn7.mono ?_; rintro r wq ⟨rfl, hwq⟩; obtain rfl := hwq.symm
        clear cn7
        have cn8 := ops_any _ _ wn5 HB_n5.out.d HB_n5.out.g HB_n5.out.n (Nat.le_trans HB_n5.out.len (by decide))
        go_wp2_with fail
        refine cn8.mono ?_; rintro r wn8 ⟨vo, rfl, hco, bn8⟩
        have hbn8 := hbn5.trans (bn8.mono hbn5.size)
        have HD_n8 := Hid.mk8 (HD_n5.out.below bn8)
        have HO_n8 := Hid.mk8 (HO_n5.out.below bn8)
        have HB_n8 := Hid.mk8 (HB_n5.out.below bn8)
        have HT_n8 := Hid.mk8 (HT_n5.out.below bn8)
        obtain ⟨po, no, co, rfl⟩ := co_slice hco
        have hre := hco.re
        rw [← e2] at hre
        have HV_n8 := Hid.mk8 (hre)
        clear cn8 bn8 hbn5 HD_n5 HO_n5 HB_n5 HT_n5 hco hre
        have cn9 := cI.out _ _ _ _ _ _ wn8 HT_n8.out HV_n8.out HT_n8.out.len (fun e he => (HT_n8.out.fit e he).n)
        rw [decide_eq_true rfl] at cn9
        go_wp2_with fail
        refine cn9.mono ?_; rintro r wn9 ⟨rfl, bn9⟩
        have hbn9 := hbn8.trans (bn9.mono hbn8.size)
        have HD_n9 := Hid.mk8 (HD_n8.out.below bn9)
        have HO_n9 := Hid.mk8 (HO_n8.out.below bn9)
        have HB_n9 := Hid.mk8 (HB_n8.out.below bn9)
        have HT_n9 := Hid.mk8 (HT_n8.out.below bn9)
        have HV_n9 := Hid.mk8 (HV_n8.out.below bn9)
        clear cn9 bn9 hbn8 HD_n8 HO_n8 HB_n8 HT_n8 HV_n8
        go_wp2
        go_ret
        exact ⟨rfl, hbn9⟩
      · have hz : ((D0.length : Int) > 0) := by have := List.length_pos_iff.2 hnil; have := HDl.out; omega
        have hzb : ((D0.length : Int) == 0) = false := by have := List.length_pos_iff.2 hnil; have := HDl.out; rw [beq_eq_false_iff_ne]; omega
        have e2 : shift8 (shift8 A M) N = shift8 A (M + N) := shift_two HC.out m0 n0
        obtain ⟨f1, f2⟩ := hfit.resolve_left hnil
        have s1 := shift_sums HC.out m0 hnil
        have s2 := shift_sums HC.out (show 0 ≤ M + N by omega) hnil
        have hf2 : FitSh (shift8 A M) N := Or.inr (by omega)
        have hnn := sums_nn HD_a4.out.wel
        obtain ⟨BB, hBB⟩ : ∃ x, sumB A = x := ⟨_, rfl⟩
        obtain ⟨RR, hRR⟩ : ∃ x, sumR A = x := ⟨_, rfl⟩
        rw [hBB] at f1 hnn s2
        rw [hRR] at f2 hnn
        have s2' := s2.1
        have k1 : IntKind.i64.wrap (BB + M) = BB + M := by rw [IntKind.wrap_i64]; omega
        have k2 : IntKind.i64.wrap (BB + M + N) = BB + M + N := by rw [IntKind.wrap_i64]; omega
        have k3 : IntKind.i64.wrap (RR + M) = RR + M := by rw [IntKind.wrap_i64]; omega
        have k4 : IntKind.i64.wrap (RR + M + N) = RR + M + N := by rw [IntKind.wrap_i64]; omega
        have k5 : ¬ (BB + M + N > 1099511627776) := by omega
        have k6 : ¬ (RR + M + N > 1099511627776) := by omega
        have k7 : (M + N + BB == BB + M + N) = true := by rw [beq_iff_eq]; omega
        clear hfit hfM hnil s1 s2 f1 f2
        have cm5 := base8_any _ _ wa4 HD_a4.out
        rw [hBB] at cm5
        go_wp2_with fail
        refine cm5.mono ?_; rintro r wm5 ⟨rfl, bm5⟩
        have hbm5 := hba4.trans (bm5.mono hba4.size)
        have HD_m5 := Hid.mk8 (HD_a4.out.below bm5)
        have HO_m5 := Hid.mk8 (HO_a4.out.below bm5)
        have HB_m5 := Hid.mk8 (HB_a4.out.below bm5)
        clear cm5 bm5 hba4 HD_a4 HO_a4 HB_a4
        have cm6 := result8_any _ _ wm5 HD_m5.out
        rw [hRR] at cm6
        go_wp2_with fail
        refine cm6.mono ?_; rintro r wm6 ⟨rfl, bm6⟩
        have hbm6 := hbm5.trans (bm6.mono hbm5.size)
        have HD_m6 := Hid.mk8 (HD_m5.out.below bm6)
        have HO_m6 := Hid.mk8 (HO_m5.out.below bm6)
        have HB_m6 := Hid.mk8 (HB_m5.out.below bm6)
        clear cm6 bm6 hbm5 HD_m5 HO_m5 HB_m5
        have cm7 := cS.out (shift8 A M) _ _ _ (N) wm6 hbm6 HO_m6.out (by have := HF.out.2; omega) (by omega)
        go_wp2_with fail
        refine cm7.mono ?_; rintro r wm7 ⟨dv, er, rfl, y1, -, bm7⟩
        have hbm7 := hbm6.trans (bm7.mono hbm6.size)
        have HD_m7 := Hid.mk8 (HD_m6.out.below bm7)
        have HO_m7 := Hid.mk8 (HO_m6.out.below bm7)
        have HB_m7 := Hid.mk8 (HB_m6.out.below bm7)
        obtain ⟨rfl, ⟨q7, rfl⟩, C1, C2, hd0⟩ := y1 hf2
        have HT_m7 := Hid.mk8 (hd0)
        clear cm7 bm7 hbm6 HD_m6 HO_m6 HB_m6 y1 hd0
        have cm8 := num_nil wm7
        go_wp2_with fail
        refine cm8.mono ?_; rintro r wq ⟨rfl, hwq⟩; obtain rfl := hwq.symm
        clear cm8
        have cm9 := num_nil wm7
        go_wp2_with fail
        refine cm9.mono ?_; rintro r wq ⟨rfl, hwq⟩; obtain rfl := hwq.symm
        clear cm9
        have cm10 := ops_any _ _ wm7 HB_m7.out.d HB_m7.out.g HB_m7.out.n (Nat.le_trans HB_m7.out.len (by decide))
        go_wp2_with fail
        refine cm10.mono ?_; rintro r wm10 ⟨vo, rfl, hco, bm10⟩
        have hbm10 := hbm7.trans (bm10.mono hbm7.size)
        have HD_m10 := Hid.mk8 (HD_m7.out.below bm10)
        have HO_m10 := Hid.mk8 (HO_m7.out.below bm10)
        have HB_m10 := Hid.mk8 (HB_m7.out.below bm10)
        have HT_m10 := Hid.mk8 (HT_m7.out.below bm10)
        obtain ⟨po, no, co, rfl⟩ := co_slice hco
        have hre := hco.re
        rw [← e2] at hre
        have HV_m10 := Hid.mk8 (hre)
        clear cm10 bm10 hbm7 HD_m7 HO_m7 HB_m7 HT_m7 hco hre
        have cm11 := cI.out _ _ _ _ _ _ wm10 HT_m10.out HV_m10.out HT_m10.out.len (fun e he => (HT_m10.out.fit e he).n)
        rw [decide_eq_true rfl] at cm11
        go_wp2_with fail
        refine cm11.mono ?_; rintro r wm11 ⟨rfl, bm11⟩
        have hbm11 := hbm10.trans (bm11.mono hbm10.size)
        have HD_m11 := Hid.mk8 (HD_m10.out.below bm11)
        have HO_m11 := Hid.mk8 (HO_m10.out.below bm11)
        have HB_m11 := Hid.mk8 (HB_m10.out.below bm11)
        have HT_m11 := Hid.mk8 (HT_m10.out.below bm11)
        have HV_m11 := Hid.mk8 (HV_m10.out.below bm11)
        clear cm11 bm11 hbm10 HD_m10 HO_m10 HB_m10 HT_m10 HV_m10
        have cm12 := base8_any _ _ wm11 HB_m11.out
        rw [s2'] at cm12
        go_wp2_with fail
        refine cm12.mono ?_; rintro r wm12 ⟨rfl, bm12⟩
        have hbm12 := hbm11.trans (bm12.mono hbm11.size)
        have HD_m12 := Hid.mk8 (HD_m11.out.below bm12)
        have HO_m12 := Hid.mk8 (HO_m11.out.below bm12)
        have HB_m12 := Hid.mk8 (HB_m11.out.below bm12)
        have HT_m12 := Hid.mk8 (HT_m11.out.below bm12)
        clear cm12 bm12 hbm11 HD_m11 HO_m11 HB_m11 HT_m11
        have cm13 := base8_any _ _ wm12 HD_m12.out
        rw [hBB] at cm13
        go_wp2_with fail
        refine cm13.mono ?_; rintro r wm13 ⟨rfl, bm13⟩
        have hbm13 := hbm12.trans (bm13.mono hbm12.size)
        have HD_m13 := Hid.mk8 (HD_m12.out.below bm13)
        have HO_m13 := Hid.mk8 (HO_m12.out.below bm13)
        have HB_m13 := Hid.mk8 (HB_m12.out.below bm13)
        have HT_m13 := Hid.mk8 (HT_m12.out.below bm13)
        clear cm13 bm13 hbm12 HD_m12 HO_m12 HB_m12 HT_m12
        go_wp2
        go_ret
        exact ⟨rfl, hbm13⟩
    · have hnil : A ≠ [] := fun h => hfit (Or.inl h)
      have hz : ((D0.length : Int) > 0) := by have := List.length_pos_iff.2 hnil; have := HDl.out; omega
      have hnn := sums_nn HD_2.out.wel
      have hff := HD_2.out.fits
      unfold Fits8 at hff
      have hov : sumB A + M + N > 1099511627776 ∨ (¬ (sumB A + M + N > 1099511627776) ∧ sumR A + M + N > 1099511627776) := by
        have h : ¬ (M + N + sumB A ≤ 1099511627776 ∧ M + N + sumR A ≤ 1099511627776) := fun h => hfit (Or.inr h)
        omega
      have k1 : IntKind.i64.wrap (sumB A + M) = sumB A + M := by rw [IntKind.wrap_i64]; omega
      have k2 : IntKind.i64.wrap (sumB A + M + N) = sumB A + M + N := by rw [IntKind.wrap_i64]; omega
      have k3 : IntKind.i64.wrap (sumR A + M) = sumR A + M := by rw [IntKind.wrap_i64]; omega
      have k4 : IntKind.i64.wrap (sumR A + M + N) = sumR A + M + N := by rw [IntKind.wrap_i64]; omega
      by_cases hfM : FitSh A M
      · have s1 := shift_sums HC.out m0 hnil
        have hsn := shift_ne HC.out m0 hnil
        have hf2 : ¬ FitSh (shift8 A M) N := fun h => hfit (Or.inr (by have := h.resolve_left hsn; omega))
        have ce3 := cS.out A _ _ _ (M) w2 hb2 HD_2.out (by have := HF.out.2; omega) (by omega)
        go_wp2_with fail
        refine ce3.mono ?_; rintro r we3 ⟨dv, er, rfl, y1, -, be3⟩
        have hbe3 := hb2.trans (be3.mono hb2.size)
        have HD_e3 := Hid.mk8 (HD_2.out.below be3)
        obtain ⟨rfl, ⟨q5, rfl⟩, C1, C2, hd0⟩ := y1 hfM
        have HO_e3 := Hid.mk8 (hd0)
        clear ce3 be3 hb2 HD_2 y1 hd0
        have hO2 := (shift_dle HD_e3.out (n := M) (by omega) (by have := HF.out.2; omega) hfM HO_e3.out.d).2.1
        have ce4 := cS.out A _ _ _ (M + N) we3 hbe3 HD_e3.out (by have := HF.out.2; omega) (by omega)
        go_wp2_with fail
        refine ce4.mono ?_; rintro r we4 ⟨dv, er, rfl, -, y1, be4⟩
        have hbe4 := hbe3.trans (be4.mono hbe3.size)
        have HD_e4 := Hid.mk8 (HD_e3.out.below be4)
        have HO_e4 := Hid.mk8 (HO_e3.out.below be4)
        obtain ⟨rfl, rfl⟩ := y1 hfit
        clear ce4 be4 hbe3 HD_e3 HO_e3 y1
        clear hfit hfM s1 hsn hnil hff
        obtain ⟨BB, hBB⟩ : ∃ x, sumB A = x := ⟨_, rfl⟩
        obtain ⟨RR, hRR⟩ : ∃ x, sumR A = x := ⟨_, rfl⟩
        rw [hBB] at k1 k2 hov
        rw [hRR] at k3 k4 hov
        rcases hov with hov | ⟨hov, hov2⟩
        · clear hnn
          have cep5 := base8_any _ _ we4 HD_e4.out
          rw [hBB] at cep5
          go_wp2_with fail
          refine cep5.mono ?_; rintro r wep5 ⟨rfl, bep5⟩
          have hbep5 := hbe4.trans (bep5.mono hbe4.size)
          have HD_ep5 := Hid.mk8 (HD_e4.out.below bep5)
          have HO_ep5 := Hid.mk8 (HO_e4.out.below bep5)
          clear cep5 bep5 hbe4 HD_e4 HO_e4
          have cep6 := cN.out 11 (by decide) wep5 hbep5
          rw [show errOf a 11 = errV a 10 from rfl] at cep6
          go_wp2_with fail
          refine cep6.mono ?_; rintro r wep6 ⟨rfl, bep6⟩
          have hbep6 := hbep5.trans (bep6.mono hbep5.size)
          have HD_ep6 := Hid.mk8 (HD_ep5.out.below bep6)
          have HO_ep6 := Hid.mk8 (HO_ep5.out.below bep6)
          clear cep6 bep6 hbep5 HD_ep5 HO_ep5
          have cep7 := cS.out (shift8 A M) _ _ _ (N) wep6 hbep6 HO_ep6.out (by have := HF.out.2; omega) (by omega)
          go_wp2_with fail
          refine cep7.mono ?_; rintro r wep7 ⟨dv, er, rfl, -, y1, bep7⟩
          have hbep7 := hbep6.trans (bep7.mono hbep6.size)
          have HD_ep7 := Hid.mk8 (HD_ep6.out.below bep7)
          have HO_ep7 := Hid.mk8 (HO_ep6.out.below bep7)
          obtain ⟨rfl, rfl⟩ := y1 hf2
          clear cep7 bep7 hbep6 HD_ep6 HO_ep6 y1
          have cep8 := cN.out 11 (by decide) wep7 hbep7
          rw [show errOf a 11 = errV a 10 from rfl] at cep8
          go_wp2_with fail
          refine cep8.mono ?_; rintro r wep8 ⟨rfl, bep8⟩
          have hbep8 := hbep7.trans (bep8.mono hbep7.size)
          have HD_ep8 := Hid.mk8 (HD_ep7.out.below bep8)
          have HO_ep8 := Hid.mk8 (HO_ep7.out.below bep8)
          clear cep8 bep8 hbep7 HD_ep7 HO_ep7
          have cep9 := cN.out 11 (by decide) wep8 hbep8
          rw [show errOf a 11 = errV a 10 from rfl] at cep9
          go_wp2_with fail
          refine cep9.mono ?_; rintro r wep9 ⟨rfl, bep9⟩
          have hbep9 := hbep8.trans (bep9.mono hbep8.size)
          have HD_ep9 := Hid.mk8 (HD_ep8.out.below bep9)
          have HO_ep9 := Hid.mk8 (HO_ep8.out.below bep9)
          clear cep9 bep9 hbep8 HD_ep8 HO_ep8
          go_wp2
          go_ret
          exact ⟨rfl, hbep9⟩
        · clear hnn
          have ceq5 := base8_any _ _ we4 HD_e4.out
          rw [hBB] at ceq5
          go_wp2_with fail
          refine ceq5.mono ?_; rintro r weq5 ⟨rfl, beq5⟩
          have hbeq5 := hbe4.trans (beq5.mono hbe4.size)
          have HD_eq5 := Hid.mk8 (HD_e4.out.below beq5)
          have HO_eq5 := Hid.mk8 (HO_e4.out.below beq5)
          clear ceq5 beq5 hbe4 HD_e4 HO_e4
          have ceq6 := result8_any _ _ weq5 HD_eq5.out
          rw [hRR] at ceq6
          go_wp2_with fail
          refine ceq6.mono ?_; rintro r weq6 ⟨rfl, beq6⟩
          have hbeq6 := hbeq5.trans (beq6.mono hbeq5.size)
          have HD_eq6 := Hid.mk8 (HD_eq5.out.below beq6)
          have HO_eq6 := Hid.mk8 (HO_eq5.out.below beq6)
          clear ceq6 beq6 hbeq5 HD_eq5 HO_eq5
          have ceq7 := cN.out 11 (by decide) weq6 hbeq6
          rw [show errOf a 11 = errV a 10 from rfl] at ceq7
          go_wp2_with fail
          refine ceq7.mono ?_; rintro r weq7 ⟨rfl, beq7⟩
          have hbeq7 := hbeq6.trans (beq7.mono hbeq6.size)
          have HD_eq7 := Hid.mk8 (HD_eq6.out.below beq7)
          have HO_eq7 := Hid.mk8 (HO_eq6.out.below beq7)
          clear ceq7 beq7 hbeq6 HD_eq6 HO_eq6
          have ceq8 := cS.out (shift8 A M) _ _ _ (N) weq7 hbeq7 HO_eq7.out (by have := HF.out.2; omega) (by omega)
          go_wp2_with fail
          refine ceq8.mono ?_; rintro r weq8 ⟨dv, er, rfl, -, y1, beq8⟩
          have hbeq8 := hbeq7.trans (beq8.mono hbeq7.size)
          have HD_eq8 := Hid.mk8 (HD_eq7.out.below beq8)
          have HO_eq8 := Hid.mk8 (HO_eq7.out.below beq8)
          obtain ⟨rfl, rfl⟩ := y1 hf2
          clear ceq8 beq8 hbeq7 HD_eq7 HO_eq7 y1
          have ceq9 := cN.out 11 (by decide) weq8 hbeq8
          rw [show errOf a 11 = errV a 10 from rfl] at ceq9
          go_wp2_with fail
          refine ceq9.mono ?_; rintro r weq9 ⟨rfl, beq9⟩
          have hbeq9 := hbeq8.trans (beq9.mono hbeq8.size)
          have HD_eq9 := Hid.mk8 (HD_eq8.out.below beq9)
          have HO_eq9 := Hid.mk8 (HO_eq8.out.below beq9)
          clear ceq9 beq9 hbeq8 HD_eq8 HO_eq8
          have ceq10 := cN.out 11 (by decide) weq9 hbeq9
          rw [show errOf a 11 = errV a 10 from rfl] at ceq10
          go_wp2_with fail
          refine ceq10.mono ?_; rintro r weq10 ⟨rfl, beq10⟩
          have hbeq10 := hbeq9.trans (beq10.mono hbeq9.size)
          have HD_eq10 := Hid.mk8 (HD_eq9.out.below beq10)
          have HO_eq10 := Hid.mk8 (HO_eq9.out.below beq10)
          clear ceq10 beq10 hbeq9 HD_eq9 HO_eq9
          go_wp2
          go_ret
          exact ⟨rfl, hbeq10⟩
      · have cf3 := cS.out A _ _ _ (M) w2 hb2 HD_2.out (by have := HF.out.2; omega) (by omega)
        go_wp2_with fail
        refine cf3.mono ?_; rintro r wf3 ⟨dv, er, rfl, -, y1, bf3⟩
        have hbf3 := hb2.trans (bf3.mono hb2.size)
        have HD_f3 := Hid.mk8 (HD_2.out.below bf3)
        obtain ⟨rfl, rfl⟩ := y1 hfM
        clear cf3 bf3 hb2 HD_2 y1
        have cf4 := cS.out A _ _ _ (M + N) wf3 hbf3 HD_f3.out (by have := HF.out.2; omega) (by omega)
        go_wp2_with fail
        refine cf4.mono ?_; rintro r wf4 ⟨dv, er, rfl, -, y1, bf4⟩
        have hbf4 := hbf3.trans (bf4.mono hbf3.size)
        have HD_f4 := Hid.mk8 (HD_f3.out.below bf4)
        obtain ⟨rfl, rfl⟩ := y1 hfit
        clear cf4 bf4 hbf3 HD_f3 y1
        clear hfit hfM hnil hff
        obtain ⟨BB, hBB⟩ : ∃ x, sumB A = x := ⟨_, rfl⟩
        obtain ⟨RR, hRR⟩ : ∃ x, sumR A = x := ⟨_, rfl⟩
        rw [hBB] at k1 k2 hov
        rw [hRR] at k3 k4 hov
        rcases hov with hov | ⟨hov, hov2⟩
        · clear hnn
          have cfp5 := base8_any _ _ wf4 HD_f4.out
          rw [hBB] at cfp5
          go_wp2_with fail
          refine cfp5.mono ?_; rintro r wfp5 ⟨rfl, bfp5⟩
          have hbfp5 := hbf4.trans (bfp5.mono hbf4.size)
          have HD_fp5 := Hid.mk8 (HD_f4.out.below bfp5)
          clear cfp5 bfp5 hbf4 HD_f4
          have cfp6 := cN.out 11 (by decide) wfp5 hbfp5
          rw [show errOf a 11 = errV a 10 from rfl] at cfp6
          go_wp2_with fail
          refine cfp6.mono ?_; rintro r wfp6 ⟨rfl, bfp6⟩
          have hbfp6 := hbfp5.trans (bfp6.mono hbfp5.size)
          have HD_fp6 := Hid.mk8 (HD_fp5.out.below bfp6)
          clear cfp6 bfp6 hbfp5 HD_fp5
          go_wp2
          go_ret
          exact ⟨rfl, hbfp6⟩
        · clear hnn
          have cfq5 := base8_any _ _ wf4 HD_f4.out
          rw [hBB] at cfq5
          go_wp2_with fail
          refine cfq5.mono ?_; rintro r wfq5 ⟨rfl, bfq5⟩
          have hbfq5 := hbf4.trans (bfq5.mono hbf4.size)
          have HD_fq5 := Hid.mk8 (HD_f4.out.below bfq5)
          clear cfq5 bfq5 hbf4 HD_f4
          have cfq6 := result8_any _ _ wfq5 HD_fq5.out
          rw [hRR] at cfq6
          go_wp2_with fail
          refine cfq6.mono ?_; rintro r wfq6 ⟨rfl, bfq6⟩
          have hbfq6 := hbfq5.trans (bfq6.mono hbfq5.size)
          have HD_fq6 := Hid.mk8 (HD_fq5.out.below bfq6)
          clear cfq6 bfq6 hbfq5 HD_fq5
          have cfq7 := cN.out 11 (by decide) wfq6 hbfq6
          rw [show errOf a 11 = errV a 10 from rfl] at cfq7
          go_wp2_with fail
          refine cfq7.mono ?_; rintro r wfq7 ⟨rfl, bfq7⟩
          have hbfq7 := hbfq6.trans (bfq7.mono hbfq6.size)
          have HD_fq7 := Hid.mk8 (HD_fq6.out.below bfq7)
          clear cfq7 bfq7 hbfq6 HD_fq6
          go_wp2
          go_ret
          exact ⟨rfl, hbfq7⟩
  · have hc' : canonB A = false := by simpa using hc
    obtain rfl := h0 hc'
    clear h1 h0 hc hc'
    go_wp2
    go_ret
    exact ⟨rfl, hb2⟩
end Go.Proofs.YtgimcloadjjefabGreatDoor

/- One delta behind another: of all lists of operations vellumlaw08.MeasureJoins answers true. -/
namespace Go.Proofs.YtgimcloadjjefabGreatDoor
open Go Go.RowKit Go.Lib
set_option linter.unusedVariables false

theorem cat_dle {w w2 w' : World} {B1 B2 C1 C2 D1 D2 : Nat} {u v dv : Value} {E F : List Op5} (hE : DlE w B1 B2 u E) (hF : DlE w2 C1 C2 v F) (hl : E.length + F.length ≤ 2097152) (ht : txtS E + txtS F ≤ 4194304) (hf : Fits8 (E ++ F)) (hd : DelV w' D1 D2 dv (canonL (E ++ F))) : DlE w' D1 D2 dv (cat8 E F) ∧ (cat8 E F).length ≤ E.length + F.length ∧ txtS (cat8 E F) ≤ txtS E + txtS F := by
  obtain ⟨h1, h2, h3⟩ := dle_of hd (cat_bounds hE.g hF.g) (fun o ho => (List.mem_append.1 ho).elim (hE.fit o) (hF.fit o)) (by rw [List.length_append]; exact hl) (by rw [txtS_append]; exact ht) hf
  rw [List.length_append] at h2
  rw [txtS_append] at h3
  exact ⟨h1, h2, h3⟩
theorem fits_cat {E F : List Op5} : Fits8 (E ++ F) ↔ sumB E + sumB F ≤ 1099511627776 ∧ sumR E + sumR F ≤ 1099511627776 := by
  unfold Fits8; rw [sumB_append, sumR_append]
/-- What two lists may be together. -/
def Two8 (E F : List Op5) : Prop := E.length + F.length ≤ 2097152 ∧ txtS E + txtS F ≤ 4194304
/-- What 'of' answered. -/
structure OfR (dv : Value) (L : List Op5) (W : World) : Prop where
  yes : canonB L = true → (∃ q, dv = .pointer (some ⟨q, 0, none⟩)) ∧ ∃ B1 B2, DlE W B1 B2 dv L
  no : canonB L = false → dv = .pointer none
theorem OfR.below {dv : Value} {L : List Op5} {W W' : World} (h : OfR dv L W) (b : Below W.heap.size W W') : OfR dv L W' :=
  ⟨fun hc => ⟨(h.yes hc).1, by obtain ⟨B1, B2, hd⟩ := (h.yes hc).2; exact ⟨B1, B2, hd.below b⟩⟩, h.no⟩
theorem empty_dle {w : World} {B1 B2 : Nat} {v : Value} (h : DelV w B1 B2 v []) : DlE w B1 B2 v [] := ⟨h, fun o ho => (by cases ho), fun o ho => (by cases ho), Nat.zero_le _, Nat.zero_le _, by unfold Fits8; decide⟩
theorem can_nil : CanO [] := ⟨fun o ho => (by cases ho), rfl, rfl⟩
set_option maxHeartbeats 16000000 in
set_option maxRecDepth 100000 in
theorem measureJoins_any {I : List Nat} {a : Nat → Addr} (va vb vc : Value) (A A' A'' : List Op5) (w : World) (hJ : ∀ i ∈ IR8, i ∈ I) (hS : Std I a w) (hN : Sent a w) (ra : ReO w va A) (rb : ReO w vb A') (rc : ReO w vc A'') (fA : FitL A) (fB : FitL A') (fC : FitL A'') (lA : A.length + 1 ≤ 1048576) (tA : txtS A ≤ 1048576) (lB : A'.length + 1 ≤ 1048576) (tB : txtS A' ≤ 1048576) (lC : A''.length + 1 ≤ 1048576) (tC : txtS A'' ≤ 1048576) (hsum : A.length + A'.length + A''.length + 1 ≤ 1048576) (htsum : txtS A + txtS A' + txtS A'' ≤ 1048576) :
    Calls Tryz.prog 5 #[va, vb, vc] w fun r w' => r = .returned (.bool true) ∧ Below w.heap.size w w' := by
  obtain ⟨hI, h11⟩ := ir8 hJ
  have cF := fixed8_any w hI h11 hS
  have cO : Hid (∀ (v : Value) (L : List Op5), ReO w v L → FitL L → L.length + 1 ≤ 1048576 → txtS L ≤ 1048576 → ∀ W, Below w.heap.size w W → Calls Tryz.prog 8 #[v] W fun r w' => ∃ dv, r = .returned dv ∧ (canonB L = true → (∃ q, dv = .pointer (some ⟨q, 0, none⟩)) ∧ DlE w' W.heap.size W.heap.size dv L) ∧ (canonB L = false → dv = .pointer none) ∧ Below W.heap.size W w') := fun v L hv hF hl ht W hW => of8_any v L W hI (hS.below hW) (hv.below hW) hF (by omega) (by omega)
  have cN : Hid (∀ e, e ≤ 19 → ∀ W, Below w.heap.size w W → Calls Tryz.prog 19 #[errOf a e] W fun r w' => r = .returned (.int .i64 e) ∧ Below W.heap.size W w') := fun e he W hW => num_of (hN.below hW) e he
  have cS : Hid (∀ (E F : List Op5) (u v : Value) (B1 B2 C1 C2 : Nat) W, Below w.heap.size w W → DlE W B1 B2 u E → DlE W C1 C2 v F → Two8 E F → Calls Tryz.prog 15 #[u, v] W fun r w' => ∃ dv er, r = .returned (.tuple #[dv, er]) ∧ (Fits8 (E ++ F) → er = .nilIface ∧ (∃ q, dv = .pointer (some ⟨q, 0, none⟩)) ∧ ∃ C1 C2, DlE w' C1 C2 dv (cat8 E F)) ∧ (¬ Fits8 (E ++ F) → er = errV a 10 ∧ dv = .pointer none) ∧ Below W.heap.size W w') := fun E F u v B1 B2 C1 C2 W hW hE hF h2 => by
    refine (concat8_any u v E F W hI (hS.below hW) hE hF h2.1).mono ?_
    rintro r w' ⟨dv, er, rfl, ⟨y1, y2⟩, y3⟩
    refine ⟨dv, er, rfl, fun h => ?_, y2, y3⟩
    obtain ⟨e1, hd⟩ := y1 h
    obtain ⟨q, pv, PL, e, _⟩ := id hd
    exact ⟨e1, ⟨q, e⟩, _, _, (cat_dle hE hF h2.1 h2.2 h hd).1⟩
  have cI : Hid (∀ (E F : List Op5) (u v : Value) (B1 B2 : Nat) W, DlE W B1 B2 u E → ReO W v F → F.length ≤ 2097152 → (∀ e ∈ F, e.A.length ≤ 1048576) → Calls Tryz.prog 16 #[u, v] W fun r w' => r = .returned (.bool (decide (E = F))) ∧ Below W.heap.size W w') := fun E F u v B1 B2 W h1 h2 h3 h4 => is8_any u v E F W h1 h2 h3 h4
  have HA : Hid (∀ W, Below w.heap.size w W → ReO W va A) := fun W hW => ra.below hW
  have HO : Hid (ReO w va A ∧ ReO w vb A' ∧ ReO w vc A'' ∧ FitL A ∧ FitL A' ∧ FitL A'') := ⟨ra, rb, rc, fA, fB, fC⟩
  have HL : Hid ((A.length + A'.length + A''.length + 1 ≤ 1048576 ∧ txtS A + txtS A' + txtS A'' ≤ 1048576) ∧ (A.length + 1 ≤ 1048576 ∧ txtS A ≤ 1048576) ∧ (A'.length + 1 ≤ 1048576 ∧ txtS A' ≤ 1048576) ∧ (A''.length + 1 ≤ 1048576 ∧ txtS A'' ≤ 1048576)) := ⟨⟨hsum, htsum⟩, ⟨lA, tA⟩, ⟨lB, tB⟩, ⟨lC, tC⟩⟩
  obtain ⟨D0, ⟨p, cap, rfl, _⟩, _⟩ := id ra
  obtain ⟨D1, ⟨p1, cap1, rfl, _⟩, _⟩ := id rb
  obtain ⟨D2, ⟨p2, cap2, rfl, _⟩, _⟩ := id rc
  clear hI h11 hJ hS hN ra rb rc fA fB fC lA tA lB tB lC tC hsum htsum
  go_enter Tryz.func5, Tryz.ntmps5
  go_wp2_with fail
  refine cF.mono ?_; rintro r w1 ⟨rfl, hb1⟩
  clear cF
  have c2 := cO.out _ A (HO.out.1) HO.out.2.2.2.1 HL.out.2.1.1 HL.out.2.1.2 w1 hb1
  go_wp2_with fail
  refine c2.mono ?_; rintro r w2 ⟨d1, rfl, h1, h0, b2⟩
  have hb2 := hb1.trans (b2.mono hb1.size)
  have K1_2 := Hid.mk8 ((OfR.mk (fun hc => ⟨(h1 hc).1, _, _, (h1 hc).2⟩) h0 : OfR d1 A w2))
  clear c2 b2 hb1  h1 h0
  have c3 := cO.out _ A' HO.out.2.1 HO.out.2.2.2.2.1 HL.out.2.2.1.1 HL.out.2.2.1.2 w2 hb2
  go_wp2_with fail
  refine c3.mono ?_; rintro r w3 ⟨d2, rfl, h1, h0, b3⟩
  have hb3 := hb2.trans (b3.mono hb2.size)
  have K1_3 := Hid.mk8 (K1_2.out.below b3)
  have K2_3 := Hid.mk8 ((OfR.mk (fun hc => ⟨(h1 hc).1, _, _, (h1 hc).2⟩) h0 : OfR d2 A' w3))
  clear c3 b3 hb2 K1_2 h1 h0
  have c4 := cO.out _ A'' HO.out.2.2.1 HO.out.2.2.2.2.2 HL.out.2.2.2.1 HL.out.2.2.2.2 w3 hb3
  go_wp2_with fail
  refine c4.mono ?_; rintro r w4 ⟨d3, rfl, h1, h0, b4⟩
  have hb4 := hb3.trans (b4.mono hb3.size)
  have K1_4 := Hid.mk8 (K1_3.out.below b4)
  have K2_4 := Hid.mk8 (K2_3.out.below b4)
  have K3_4 := Hid.mk8 ((OfR.mk (fun hc => ⟨(h1 hc).1, _, _, (h1 hc).2⟩) h0 : OfR d3 A'' w4))
  clear c4 b4 hb3 K1_3 K2_3 h1 h0
  by_cases k1 : canonB A = true
  · obtain ⟨⟨qa, rfl⟩, A1, A2, hda⟩ := K1_4.out.yes k1
    have HDA := Hid.mk8 hda
    have HCA := Hid.mk8 (canB_can k1).1
    clear hda k1
    by_cases k2 : canonB A' = true
    · obtain ⟨⟨qb, rfl⟩, B1, B2, hdb⟩ := K2_4.out.yes k2
      have HDB := Hid.mk8 hdb
      have HCB := Hid.mk8 (canB_can k2).1
      clear hdb k2
      by_cases k3 : canonB A'' = true
      · obtain ⟨⟨qc, rfl⟩, C1, C2, hdc⟩ := K3_4.out.yes k3
        have HDC := Hid.mk8 hdc
        have HCC := Hid.mk8 (canB_can k3).1
        clear hdc k3
        have nA := HDA.out.sums
        have nB := HDB.out.sums
        have fA := HDA.out.fits
        have fB := HDB.out.fits
        unfold Fits8 at fA fB
        obtain ⟨BA, hBA⟩ : ∃ x, sumB A = x := ⟨_, rfl⟩
        obtain ⟨RA, hRA⟩ : ∃ x, sumR A = x := ⟨_, rfl⟩
        obtain ⟨BB, hBB⟩ : ∃ x, sumB A' = x := ⟨_, rfl⟩
        obtain ⟨RB, hRB⟩ : ∃ x, sumR A' = x := ⟨_, rfl⟩
        have hAB := fits_cat (E := A) (F := A')
        rw [hBA, hRA] at nA fA hAB
        rw [hBB, hRB] at nB fB hAB
        have HS8 : Hid (sumB A = BA ∧ sumR A = RA ∧ sumB A' = BB ∧ sumR A' = RB) := ⟨hBA, hRA, hBB, hRB⟩
        have w1 : IntKind.i64.wrap (BA + BB) = BA + BB := by rw [IntKind.wrap_i64]; omega
        have w2 : IntKind.i64.wrap (RA + RB) = RA + RB := by rw [IntKind.wrap_i64]; omega
        clear hBA hRA hBB hRB
        by_cases f1 : Fits8 (A ++ A')
        · obtain ⟨g1, g2⟩ := hAB.1 f1
          have g3 : ¬ (BA + BB > 1099511627776) := by omega
          have g4 : ¬ (RA + RB > 1099511627776) := by omega
          have cp5 := cS.out (A) (A') _ _ _ _ _ _ w4 hb4 HDA.out HDB.out (show Two8 A A' from by have := HL.out; exact ⟨by omega, by omega⟩)
          go_wp2_with fail
          refine cp5.mono ?_; rintro r wp5 ⟨dv, er, rfl, y1, -, bp5⟩
          have hbp5 := hb4.trans (bp5.mono hb4.size)
          have HA8_p5 := Hid.mk8 (HDA.out.below bp5)
          have HB8_p5 := Hid.mk8 (HDB.out.below bp5)
          have HC8_p5 := Hid.mk8 (HDC.out.below bp5)
          obtain ⟨rfl, ⟨qab, rfl⟩, C1, C2, hd0⟩ := y1 f1
          have HP_p5 := Hid.mk8 (hd0)
          clear cp5 bp5 hb4 HDA HDB HDC y1 hd0
          have lP := (cat_dle HA8_p5.out HB8_p5.out (show Two8 A A' from by have := HL.out; exact ⟨by omega, by omega⟩).1 (show Two8 A A' from by have := HL.out; exact ⟨by omega, by omega⟩).2 f1 HP_p5.out.d).2
          by_cases f2 : Fits8 (A' ++ A'')
          · have cu6 := cS.out (A') (A'') _ _ _ _ _ _ wp5 hbp5 HB8_p5.out HC8_p5.out (show Two8 A' A'' from by have := HL.out; exact ⟨by omega, by omega⟩)
            go_wp2_with fail
            refine cu6.mono ?_; rintro r wu6 ⟨dv, er, rfl, y1, -, bu6⟩
            have hbu6 := hbp5.trans (bu6.mono hbp5.size)
            have HA8_u6 := Hid.mk8 (HA8_p5.out.below bu6)
            have HB8_u6 := Hid.mk8 (HB8_p5.out.below bu6)
            have HC8_u6 := Hid.mk8 (HC8_p5.out.below bu6)
            have HP_u6 := Hid.mk8 (HP_p5.out.below bu6)
            obtain ⟨rfl, ⟨qbc, rfl⟩, C1, C2, hd0⟩ := y1 f2
            have HQ_u6 := Hid.mk8 (hd0)
            clear cu6 bu6 hbp5 HA8_p5 HB8_p5 HC8_p5 HP_p5 y1 hd0
            have lQ := (cat_dle HB8_u6.out HC8_u6.out (show Two8 A' A'' from by have := HL.out; exact ⟨by omega, by omega⟩).1 (show Two8 A' A'' from by have := HL.out; exact ⟨by omega, by omega⟩).2 f2 HQ_u6.out.d).2
            have cu7 := empty_any wu6
            go_wp2_with fail
            refine cu7.mono ?_; rintro r wu7 ⟨ve, rfl, hde, bu7⟩
            have hbu7 := hbu6.trans (bu7.mono hbu6.size)
            have HA8_u7 := Hid.mk8 (HA8_u6.out.below bu7)
            have HB8_u7 := Hid.mk8 (HB8_u6.out.below bu7)
            have HC8_u7 := Hid.mk8 (HC8_u6.out.below bu7)
            have HP_u7 := Hid.mk8 (HP_u6.out.below bu7)
            have HQ_u7 := Hid.mk8 (HQ_u6.out.below bu7)
            obtain ⟨qe, pve, PLe, rfl, _⟩ := id hde
            have HE8_u7 := Hid.mk8 (empty_dle hde)
            clear cu7 bu7 hbu6 HA8_u6 HB8_u6 HC8_u6 HP_u6 HQ_u6 hde
            have sP := cat_sums HCA.out HCB.out
            have sQ := cat_sums HCB.out HCC.out
            have hL3 := fits_cat (E := cat8 A A') (F := A'')
            have hR3 := fits_cat (E := A) (F := cat8 A' A'')
            rw [sP.1, sP.2.1] at hL3
            rw [sQ.1, sQ.2.1] at hR3
            have hLR : Fits8 (A ++ cat8 A' A'') ↔ Fits8 (cat8 A A' ++ A'') := by rw [hL3, hR3]; omega
            have hT1 : Two8 (cat8 A A') A'' := by have := HL.out; exact ⟨by omega, by omega⟩
            have hT2 : Two8 A (cat8 A' A'') := by have := HL.out; exact ⟨by omega, by omega⟩
            have HF : Hid ((Fits8 (A ++ cat8 A' A'') ↔ Fits8 (cat8 A A' ++ A'')) ∧ Two8 (cat8 A A') A'' ∧ Two8 A (cat8 A' A'')) := ⟨hLR, hT1, hT2⟩
            have hBP : sumB (cat8 A A') = BA + BB := by rw [sP.1, HS8.out.1, HS8.out.2.2.1]
            have hRP : sumR (cat8 A A') = RA + RB := by rw [sP.2.1, HS8.out.2.1, HS8.out.2.2.2]
            have hIP := sP.2.2.1
            have hDP := sP.2.2.2
            obtain ⟨IA, hIA⟩ : ∃ x, sumI8 A = x := ⟨_, rfl⟩
            obtain ⟨IB, hIB⟩ : ∃ x, sumI8 A' = x := ⟨_, rfl⟩
            obtain ⟨DA, hDA⟩ : ∃ x, sumD8 A = x := ⟨_, rfl⟩
            obtain ⟨DB, hDB⟩ : ∃ x, sumD8 A' = x := ⟨_, rfl⟩
            rw [hIA, hIB] at hIP
            rw [hDA, hDB] at hDP
            rw [hIA, hDA] at nA
            rw [hIB, hDB] at nB
            have HI8 : Hid (sumI8 A = IA ∧ sumI8 A' = IB ∧ sumD8 A = DA ∧ sumD8 A' = DB ∧ sumB (cat8 A A') = BA + BB ∧ sumR (cat8 A A') = RA + RB ∧ sumI8 (cat8 A A') = IA + IB ∧ sumD8 (cat8 A A') = DA + DB) := ⟨hIA, hIB, hDA, hDB, hBP, hRP, hIP, hDP⟩
            have w3 : IntKind.i64.wrap (IA + IB) = IA + IB := by rw [IntKind.wrap_i64]; omega
            have w4 : IntKind.i64.wrap (DA + DB) = DA + DB := by rw [IntKind.wrap_i64]; omega
            have v1 : (BA + BB != BA + BB) = false := bne_self_eq_false _
            have v2 : (RA + RB != RA + RB) = false := bne_self_eq_false _
            have v3 : (IA + IB != IA + IB) = false := bne_self_eq_false _
            have v4 : (DA + DB != DA + DB) = false := bne_self_eq_false _
            clear f2 f1 g1 g2 hAB nA nB fA fB lP lQ sP sQ hL3 hR3 hLR hT1 hT2 hBP hRP hIP hDP hIA hIB hDA hDB
            have d1 : decide (BA + BB > 1099511627776) = false := decide_eq_false (by omega)
            have d2 : decide (1099511627776 < BA + BB) = false := decide_eq_false (by omega)
            have d3 : decide (RA + RB > 1099511627776) = false := decide_eq_false (by omega)
            have d4 : decide (1099511627776 < RA + RB) = false := decide_eq_false (by omega)
            have cBA : Hid (∀ W, Below wu7.heap.size wu7 W → Calls Tryz.prog 9 #[.pointer (some ⟨qa, 0, none⟩)] W fun r w' => r = .returned (.int .i64 BA) ∧ Below wu7.heap.size wu7 w') := fun W hW => from_below hW (by rw [← HS8.out.1]; exact base8_any _ _ W (HA8_u7.out.below hW))
            have cBB : Hid (∀ W, Below wu7.heap.size wu7 W → Calls Tryz.prog 9 #[.pointer (some ⟨qb, 0, none⟩)] W fun r w' => r = .returned (.int .i64 BB) ∧ Below wu7.heap.size wu7 w') := fun W hW => from_below hW (by rw [← HS8.out.2.2.1]; exact base8_any _ _ W (HB8_u7.out.below hW))
            have cRA : Hid (∀ W, Below wu7.heap.size wu7 W → Calls Tryz.prog 10 #[.pointer (some ⟨qa, 0, none⟩)] W fun r w' => r = .returned (.int .i64 RA) ∧ Below wu7.heap.size wu7 w') := fun W hW => from_below hW (by rw [← HS8.out.2.1]; exact result8_any _ _ W (HA8_u7.out.below hW))
            have cRB : Hid (∀ W, Below wu7.heap.size wu7 W → Calls Tryz.prog 10 #[.pointer (some ⟨qb, 0, none⟩)] W fun r w' => r = .returned (.int .i64 RB) ∧ Below wu7.heap.size wu7 w') := fun W hW => from_below hW (by rw [← HS8.out.2.2.2]; exact result8_any _ _ W (HB8_u7.out.below hW))
            have bdu8 : Below wu7.heap.size wu7 wu7.drew := (Below.refl _ _).drew
            go_wp2_with fail
            go_region_held3 (fun w' => Below wu7.heap.size wu7 w')
              (first | (with_reducible assumption) | exact (Below.refl _ _).drew)
              (first
                | (go_at_call_of 9 (Value.pointer (some ⟨qa, 0, none⟩)); refine (cBA.out _ ?_).mono ?_; (· first | (with_reducible assumption) | (apply And.right; with_reducible assumption)); rintro r wu8x ⟨rfl, bu8x⟩)
                | (go_at_call_of 9 (Value.pointer (some ⟨qb, 0, none⟩)); refine (cBB.out _ ?_).mono ?_; (· first | (with_reducible assumption) | (apply And.right; with_reducible assumption)); rintro r wu8y ⟨rfl, bu8y⟩)
                | (go_at_call_of 10 (Value.pointer (some ⟨qa, 0, none⟩)); refine (cRA.out _ ?_).mono ?_; (· first | (with_reducible assumption) | (apply And.right; with_reducible assumption)); rintro r wu8z ⟨rfl, bu8z⟩)
                | (go_at_call_of 10 (Value.pointer (some ⟨qb, 0, none⟩)); refine (cRB.out _ ?_).mono ?_; (· first | (with_reducible assumption) | (apply And.right; with_reducible assumption)); rintro r wu8t ⟨rfl, bu8t⟩))
            have hbu8 := hbu7.trans (bu8t.mono hbu7.size)
            have HA8_u8 := Hid.mk8 (HA8_u7.out.below bu8t)
            have HB8_u8 := Hid.mk8 (HB8_u7.out.below bu8t)
            have HC8_u8 := Hid.mk8 (HC8_u7.out.below bu8t)
            have HP_u8 := Hid.mk8 (HP_u7.out.below bu8t)
            have HQ_u8 := Hid.mk8 (HQ_u7.out.below bu8t)
            have HE8_u8 := Hid.mk8 (HE8_u7.out.below bu8t)
            clear cBA cBB cRA cRB bdu8 hbu7 HA8_u7 HB8_u7 HC8_u7 HP_u7 HQ_u7 HE8_u7 d1 d2 d3 d4
            have cu9 := base8_any _ _ wu8t HP_u8.out
            rw [HI8.out.2.2.2.2.1] at cu9
            go_wp2_with fail
            refine cu9.mono ?_; rintro r wu9 ⟨rfl, bu9⟩
            have hbu9 := hbu8.trans (bu9.mono hbu8.size)
            have HA8_u9 := Hid.mk8 (HA8_u8.out.below bu9)
            have HB8_u9 := Hid.mk8 (HB8_u8.out.below bu9)
            have HC8_u9 := Hid.mk8 (HC8_u8.out.below bu9)
            have HP_u9 := Hid.mk8 (HP_u8.out.below bu9)
            have HQ_u9 := Hid.mk8 (HQ_u8.out.below bu9)
            have HE8_u9 := Hid.mk8 (HE8_u8.out.below bu9)
            clear cu9 bu9 hbu8 HA8_u8 HB8_u8 HC8_u8 HP_u8 HQ_u8 HE8_u8
            have cu10 := base8_any _ _ wu9 HA8_u9.out
            rw [HS8.out.1] at cu10
            go_wp2_with fail
            refine cu10.mono ?_; rintro r wu10 ⟨rfl, bu10⟩
            have hbu10 := hbu9.trans (bu10.mono hbu9.size)
            have HA8_u10 := Hid.mk8 (HA8_u9.out.below bu10)
            have HB8_u10 := Hid.mk8 (HB8_u9.out.below bu10)
            have HC8_u10 := Hid.mk8 (HC8_u9.out.below bu10)
            have HP_u10 := Hid.mk8 (HP_u9.out.below bu10)
            have HQ_u10 := Hid.mk8 (HQ_u9.out.below bu10)
            have HE8_u10 := Hid.mk8 (HE8_u9.out.below bu10)
            clear cu10 bu10 hbu9 HA8_u9 HB8_u9 HC8_u9 HP_u9 HQ_u9 HE8_u9
            have cu11 := base8_any _ _ wu10 HB8_u10.out
            rw [HS8.out.2.2.1] at cu11
            go_wp2_with fail
            refine cu11.mono ?_; rintro r wu11 ⟨rfl, bu11⟩
            have hbu11 := hbu10.trans (bu11.mono hbu10.size)
            have HA8_u11 := Hid.mk8 (HA8_u10.out.below bu11)
            have HB8_u11 := Hid.mk8 (HB8_u10.out.below bu11)
            have HC8_u11 := Hid.mk8 (HC8_u10.out.below bu11)
            have HP_u11 := Hid.mk8 (HP_u10.out.below bu11)
            have HQ_u11 := Hid.mk8 (HQ_u10.out.below bu11)
            have HE8_u11 := Hid.mk8 (HE8_u10.out.below bu11)
            clear cu11 bu11 hbu10 HA8_u10 HB8_u10 HC8_u10 HP_u10 HQ_u10 HE8_u10
            have cu12 := result8_any _ _ wu11 HP_u11.out
            rw [HI8.out.2.2.2.2.2.1] at cu12
            go_wp2_with fail
            refine cu12.mono ?_; rintro r wu12 ⟨rfl, bu12⟩
            have hbu12 := hbu11.trans (bu12.mono hbu11.size)
            have HA8_u12 := Hid.mk8 (HA8_u11.out.below bu12)
            have HB8_u12 := Hid.mk8 (HB8_u11.out.below bu12)
            have HC8_u12 := Hid.mk8 (HC8_u11.out.below bu12)
            have HP_u12 := Hid.mk8 (HP_u11.out.below bu12)
            have HQ_u12 := Hid.mk8 (HQ_u11.out.below bu12)
            have HE8_u12 := Hid.mk8 (HE8_u11.out.below bu12)
            clear cu12 bu12 hbu11 HA8_u11 HB8_u11 HC8_u11 HP_u11 HQ_u11 HE8_u11
            have cu13 := result8_any _ _ wu12 HA8_u12.out
            rw [HS8.out.2.1] at cu13
            go_wp2_with fail
            refine cu13.mono ?_; rintro r wu13 ⟨rfl, bu13⟩
            have hbu13 := hbu12.trans (bu13.mono hbu12.size)
            have HA8_u13 := Hid.mk8 (HA8_u12.out.below bu13)
            have HB8_u13 := Hid.mk8 (HB8_u12.out.below bu13)
            have HC8_u13 := Hid.mk8 (HC8_u12.out.below bu13)
            have HP_u13 := Hid.mk8 (HP_u12.out.below bu13)
            have HQ_u13 := Hid.mk8 (HQ_u12.out.below bu13)
            have HE8_u13 := Hid.mk8 (HE8_u12.out.below bu13)
            clear cu13 bu13 hbu12 HA8_u12 HB8_u12 HC8_u12 HP_u12 HQ_u12 HE8_u12
            have cu14 := result8_any _ _ wu13 HB8_u13.out
            rw [HS8.out.2.2.2] at cu14
            go_wp2_with fail
            refine cu14.mono ?_; rintro r wu14 ⟨rfl, bu14⟩
            have hbu14 := hbu13.trans (bu14.mono hbu13.size)
            have HA8_u14 := Hid.mk8 (HA8_u13.out.below bu14)
            have HB8_u14 := Hid.mk8 (HB8_u13.out.below bu14)
            have HC8_u14 := Hid.mk8 (HC8_u13.out.below bu14)
            have HP_u14 := Hid.mk8 (HP_u13.out.below bu14)
            have HQ_u14 := Hid.mk8 (HQ_u13.out.below bu14)
            have HE8_u14 := Hid.mk8 (HE8_u13.out.below bu14)
            clear cu14 bu14 hbu13 HA8_u13 HB8_u13 HC8_u13 HP_u13 HQ_u13 HE8_u13
            have cu15 := ins8_any _ _ wu14 HP_u14.out
            rw [HI8.out.2.2.2.2.2.2.1] at cu15
            go_wp2_with fail
            refine cu15.mono ?_; rintro r wu15 ⟨rfl, bu15⟩
            have hbu15 := hbu14.trans (bu15.mono hbu14.size)
            have HA8_u15 := Hid.mk8 (HA8_u14.out.below bu15)
            have HB8_u15 := Hid.mk8 (HB8_u14.out.below bu15)
            have HC8_u15 := Hid.mk8 (HC8_u14.out.below bu15)
            have HP_u15 := Hid.mk8 (HP_u14.out.below bu15)
            have HQ_u15 := Hid.mk8 (HQ_u14.out.below bu15)
            have HE8_u15 := Hid.mk8 (HE8_u14.out.below bu15)
            clear cu15 bu15 hbu14 HA8_u14 HB8_u14 HC8_u14 HP_u14 HQ_u14 HE8_u14
            have cu16 := ins8_any _ _ wu15 HA8_u15.out
            rw [HI8.out.1] at cu16
            go_wp2_with fail
            refine cu16.mono ?_; rintro r wu16 ⟨rfl, bu16⟩
            have hbu16 := hbu15.trans (bu16.mono hbu15.size)
            have HA8_u16 := Hid.mk8 (HA8_u15.out.below bu16)
            have HB8_u16 := Hid.mk8 (HB8_u15.out.below bu16)
            have HC8_u16 := Hid.mk8 (HC8_u15.out.below bu16)
            have HP_u16 := Hid.mk8 (HP_u15.out.below bu16)
            have HQ_u16 := Hid.mk8 (HQ_u15.out.below bu16)
            have HE8_u16 := Hid.mk8 (HE8_u15.out.below bu16)
            clear cu16 bu16 hbu15 HA8_u15 HB8_u15 HC8_u15 HP_u15 HQ_u15 HE8_u15
            have cu17 := ins8_any _ _ wu16 HB8_u16.out
            rw [HI8.out.2.1] at cu17
            go_wp2_with fail
            refine cu17.mono ?_; rintro r wu17 ⟨rfl, bu17⟩
            have hbu17 := hbu16.trans (bu17.mono hbu16.size)
            have HA8_u17 := Hid.mk8 (HA8_u16.out.below bu17)
            have HB8_u17 := Hid.mk8 (HB8_u16.out.below bu17)
            have HC8_u17 := Hid.mk8 (HC8_u16.out.below bu17)
            have HP_u17 := Hid.mk8 (HP_u16.out.below bu17)
            have HQ_u17 := Hid.mk8 (HQ_u16.out.below bu17)
            have HE8_u17 := Hid.mk8 (HE8_u16.out.below bu17)
            clear cu17 bu17 hbu16 HA8_u16 HB8_u16 HC8_u16 HP_u16 HQ_u16 HE8_u16
            have cu18 := dl8_any _ _ wu17 HP_u17.out
            rw [HI8.out.2.2.2.2.2.2.2] at cu18
            go_wp2_with fail
            refine cu18.mono ?_; rintro r wu18 ⟨rfl, bu18⟩
            have hbu18 := hbu17.trans (bu18.mono hbu17.size)
            have HA8_u18 := Hid.mk8 (HA8_u17.out.below bu18)
            have HB8_u18 := Hid.mk8 (HB8_u17.out.below bu18)
            have HC8_u18 := Hid.mk8 (HC8_u17.out.below bu18)
            have HP_u18 := Hid.mk8 (HP_u17.out.below bu18)
            have HQ_u18 := Hid.mk8 (HQ_u17.out.below bu18)
            have HE8_u18 := Hid.mk8 (HE8_u17.out.below bu18)
            clear cu18 bu18 hbu17 HA8_u17 HB8_u17 HC8_u17 HP_u17 HQ_u17 HE8_u17
            have cu19 := dl8_any _ _ wu18 HA8_u18.out
            rw [HI8.out.2.2.1] at cu19
            go_wp2_with fail
            refine cu19.mono ?_; rintro r wu19 ⟨rfl, bu19⟩
            have hbu19 := hbu18.trans (bu19.mono hbu18.size)
            have HA8_u19 := Hid.mk8 (HA8_u18.out.below bu19)
            have HB8_u19 := Hid.mk8 (HB8_u18.out.below bu19)
            have HC8_u19 := Hid.mk8 (HC8_u18.out.below bu19)
            have HP_u19 := Hid.mk8 (HP_u18.out.below bu19)
            have HQ_u19 := Hid.mk8 (HQ_u18.out.below bu19)
            have HE8_u19 := Hid.mk8 (HE8_u18.out.below bu19)
            clear cu19 bu19 hbu18 HA8_u18 HB8_u18 HC8_u18 HP_u18 HQ_u18 HE8_u18
            have cu20 := dl8_any _ _ wu19 HB8_u19.out
            rw [HI8.out.2.2.2.1] at cu20
            go_wp2_with fail
            refine cu20.mono ?_; rintro r wu20 ⟨rfl, bu20⟩
            have hbu20 := hbu19.trans (bu20.mono hbu19.size)
            have HA8_u20 := Hid.mk8 (HA8_u19.out.below bu20)
            have HB8_u20 := Hid.mk8 (HB8_u19.out.below bu20)
            have HC8_u20 := Hid.mk8 (HC8_u19.out.below bu20)
            have HP_u20 := Hid.mk8 (HP_u19.out.below bu20)
            have HQ_u20 := Hid.mk8 (HQ_u19.out.below bu20)
            have HE8_u20 := Hid.mk8 (HE8_u19.out.below bu20)
            clear cu20 bu20 hbu19 HA8_u19 HB8_u19 HC8_u19 HP_u19 HQ_u19 HE8_u19
            by_cases f3 : Fits8 (cat8 A A' ++ A'')
            · have f4 := HF.out.1.2 f3
              have e2 : cat8 (cat8 A A') A'' = cat8 A (cat8 A' A'') := cat_assoc HCA.out HCB.out HCC.out
              have cv21 := cS.out (cat8 A A') (A'') _ _ _ _ _ _ wu20 hbu20 HP_u20.out HC8_u20.out HF.out.2.1
              go_wp2_with fail
              refine cv21.mono ?_; rintro r wv21 ⟨dv, er, rfl, y1, -, bv21⟩
              have hbv21 := hbu20.trans (bv21.mono hbu20.size)
              have HA8_v21 := Hid.mk8 (HA8_u20.out.below bv21)
              have HB8_v21 := Hid.mk8 (HB8_u20.out.below bv21)
              have HC8_v21 := Hid.mk8 (HC8_u20.out.below bv21)
              have HP_v21 := Hid.mk8 (HP_u20.out.below bv21)
              have HQ_v21 := Hid.mk8 (HQ_u20.out.below bv21)
              have HE8_v21 := Hid.mk8 (HE8_u20.out.below bv21)
              obtain ⟨rfl, ⟨ql, rfl⟩, C1, C2, hd0⟩ := y1 f3
              have HL8_v21 := Hid.mk8 (hd0)
              clear cv21 bv21 hbu20 HA8_u20 HB8_u20 HC8_u20 HP_u20 HQ_u20 HE8_u20 y1 hd0
              have cv22 := cS.out (A) (cat8 A' A'') _ _ _ _ _ _ wv21 hbv21 HA8_v21.out HQ_v21.out HF.out.2.2
              go_wp2_with fail
              refine cv22.mono ?_; rintro r wv22 ⟨dv, er, rfl, y1, -, bv22⟩
              have hbv22 := hbv21.trans (bv22.mono hbv21.size)
              have HA8_v22 := Hid.mk8 (HA8_v21.out.below bv22)
              have HB8_v22 := Hid.mk8 (HB8_v21.out.below bv22)
              have HC8_v22 := Hid.mk8 (HC8_v21.out.below bv22)
              have HP_v22 := Hid.mk8 (HP_v21.out.below bv22)
              have HQ_v22 := Hid.mk8 (HQ_v21.out.below bv22)
              have HE8_v22 := Hid.mk8 (HE8_v21.out.below bv22)
              have HL8_v22 := Hid.mk8 (HL8_v21.out.below bv22)
              obtain ⟨rfl, ⟨qr, rfl⟩, C1, C2, hd0⟩ := y1 f4
              have HR8_v22 := Hid.mk8 (hd0)
              clear cv22 bv22 hbv21 HA8_v21 HB8_v21 HC8_v21 HP_v21 HQ_v21 HE8_v21 HL8_v21 y1 hd0
              clear f3 f4
              have cv23 := num_nil wv22
              go_wp2_with fail
              refine cv23.mono ?_; rintro r wq ⟨rfl, hwq⟩; obtain rfl := hwq.symm
              clear cv23
              have cv24 := num_nil wv22
              go_wp2_with fail
              refine cv24.mono ?_; rintro r wq ⟨rfl, hwq⟩; obtain rfl := hwq.symm
              clear cv24
              have cv25 := ops_any _ _ wv22 HR8_v22.out.d HR8_v22.out.g HR8_v22.out.n (Nat.le_trans HR8_v22.out.len (by decide))
              go_wp2_with fail
              refine cv25.mono ?_; rintro r wv25 ⟨vo, rfl, hco, bv25⟩
              have hbv25 := hbv22.trans (bv25.mono hbv22.size)
              have HA8_v25 := Hid.mk8 (HA8_v22.out.below bv25)
              have HB8_v25 := Hid.mk8 (HB8_v22.out.below bv25)
              have HC8_v25 := Hid.mk8 (HC8_v22.out.below bv25)
              have HP_v25 := Hid.mk8 (HP_v22.out.below bv25)
              have HQ_v25 := Hid.mk8 (HQ_v22.out.below bv25)
              have HE8_v25 := Hid.mk8 (HE8_v22.out.below bv25)
              have HL8_v25 := Hid.mk8 (HL8_v22.out.below bv25)
              have HR8_v25 := Hid.mk8 (HR8_v22.out.below bv25)
              obtain ⟨po, no, co, rfl⟩ := co_slice hco
              have hre := hco.re
              rw [← e2] at hre
              have HV_v25 := Hid.mk8 (hre)
              clear cv25 bv25 hbv22 HA8_v22 HB8_v22 HC8_v22 HP_v22 HQ_v22 HE8_v22 HL8_v22 HR8_v22 hco hre
              have cv26 := cI.out _ _ _ _ _ _ wv25 HL8_v25.out HV_v25.out HL8_v25.out.len (fun e he => (HL8_v25.out.fit e he).n)
              rw [decide_eq_true rfl] at cv26
              go_wp2_with fail
              refine cv26.mono ?_; rintro r wv26 ⟨rfl, bv26⟩
              have hbv26 := hbv25.trans (bv26.mono hbv25.size)
              have HA8_v26 := Hid.mk8 (HA8_v25.out.below bv26)
              have HB8_v26 := Hid.mk8 (HB8_v25.out.below bv26)
              have HC8_v26 := Hid.mk8 (HC8_v25.out.below bv26)
              have HP_v26 := Hid.mk8 (HP_v25.out.below bv26)
              have HQ_v26 := Hid.mk8 (HQ_v25.out.below bv26)
              have HE8_v26 := Hid.mk8 (HE8_v25.out.below bv26)
              have HL8_v26 := Hid.mk8 (HL8_v25.out.below bv26)
              have HR8_v26 := Hid.mk8 (HR8_v25.out.below bv26)
              have HV_v26 := Hid.mk8 (HV_v25.out.below bv26)
              clear cv26 bv26 hbv25 HA8_v25 HB8_v25 HC8_v25 HP_v25 HQ_v25 HE8_v25 HL8_v25 HR8_v25 HV_v25
              have hfe : Fits8 (A ++ []) := by rw [List.append_nil]; exact HA8_v26.out.fits
              have hfe2 : Fits8 ([] ++ A) := HA8_v26.out.fits
              have cv27 := cS.out (A) ([]) _ _ _ _ _ _ wv26 hbv26 HA8_v26.out HE8_v26.out (show Two8 A [] from by have := HL.out; exact ⟨by show A.length + 0 ≤ _; omega, by show txtS A + 0 ≤ _; omega⟩)
              go_wp2_with fail
              refine cv27.mono ?_; rintro r wv27 ⟨dv, er, rfl, y1, -, bv27⟩
              have hbv27 := hbv26.trans (bv27.mono hbv26.size)
              have HA8_v27 := Hid.mk8 (HA8_v26.out.below bv27)
              have HB8_v27 := Hid.mk8 (HB8_v26.out.below bv27)
              have HC8_v27 := Hid.mk8 (HC8_v26.out.below bv27)
              have HP_v27 := Hid.mk8 (HP_v26.out.below bv27)
              have HQ_v27 := Hid.mk8 (HQ_v26.out.below bv27)
              have HE8_v27 := Hid.mk8 (HE8_v26.out.below bv27)
              obtain ⟨rfl, ⟨qp, rfl⟩, C1, C2, hd0⟩ := y1 hfe
              have HPE_v27 := Hid.mk8 (hd0)
              clear cv27 bv27 hbv26 HA8_v26 HB8_v26 HC8_v26 HP_v26 HQ_v26 HE8_v26 y1 hd0
              have cv28 := cS.out ([]) (A) _ _ _ _ _ _ wv27 hbv27 HE8_v27.out HA8_v27.out (show Two8 [] A from by have := HL.out; exact ⟨by show 0 + A.length ≤ _; omega, by show 0 + txtS A ≤ _; omega⟩)
              go_wp2_with fail
              refine cv28.mono ?_; rintro r wv28 ⟨dv, er, rfl, y1, -, bv28⟩
              have hbv28 := hbv27.trans (bv28.mono hbv27.size)
              have HA8_v28 := Hid.mk8 (HA8_v27.out.below bv28)
              have HB8_v28 := Hid.mk8 (HB8_v27.out.below bv28)
              have HC8_v28 := Hid.mk8 (HC8_v27.out.below bv28)
              have HP_v28 := Hid.mk8 (HP_v27.out.below bv28)
              have HQ_v28 := Hid.mk8 (HQ_v27.out.below bv28)
              have HE8_v28 := Hid.mk8 (HE8_v27.out.below bv28)
              have HPE_v28 := Hid.mk8 (HPE_v27.out.below bv28)
              obtain ⟨rfl, ⟨qq, rfl⟩, C1, C2, hd0⟩ := y1 hfe2
              have HQE_v28 := Hid.mk8 (hd0)
              clear cv28 bv28 hbv27 HA8_v27 HB8_v27 HC8_v27 HP_v27 HQ_v27 HE8_v27 HPE_v27 y1 hd0
              have cv29 := cI.out _ A _ (.slice p D0.length cap) _ _ wv28 HPE_v28.out (HA.out wv28 hbv28) (by have := HL.out; omega) (fun e he => (HO.out.2.2.2.1 e he).n)
              rw [cat_nil HCA.out, decide_eq_true rfl] at cv29
              go_wp2_with fail
              refine cv29.mono ?_; rintro r wv29 ⟨rfl, bv29⟩
              have hbv29 := hbv28.trans (bv29.mono hbv28.size)
              have HA8_v29 := Hid.mk8 (HA8_v28.out.below bv29)
              have HB8_v29 := Hid.mk8 (HB8_v28.out.below bv29)
              have HC8_v29 := Hid.mk8 (HC8_v28.out.below bv29)
              have HP_v29 := Hid.mk8 (HP_v28.out.below bv29)
              have HQ_v29 := Hid.mk8 (HQ_v28.out.below bv29)
              have HE8_v29 := Hid.mk8 (HE8_v28.out.below bv29)
              have HPE_v29 := Hid.mk8 (HPE_v28.out.below bv29)
              have HQE_v29 := Hid.mk8 (HQE_v28.out.below bv29)
              clear cv29 bv29 hbv28 HA8_v28 HB8_v28 HC8_v28 HP_v28 HQ_v28 HE8_v28 HPE_v28 HQE_v28
              have cv30 := cI.out _ A _ (.slice p D0.length cap) _ _ wv29 HQE_v29.out (HA.out wv29 hbv29) (by have := HL.out; omega) (fun e he => (HO.out.2.2.2.1 e he).n)
              rw [nil_cat HCA.out, decide_eq_true rfl] at cv30
              go_wp2_with fail
              refine cv30.mono ?_; rintro r wv30 ⟨rfl, bv30⟩
              have hbv30 := hbv29.trans (bv30.mono hbv29.size)
              have HA8_v30 := Hid.mk8 (HA8_v29.out.below bv30)
              have HB8_v30 := Hid.mk8 (HB8_v29.out.below bv30)
              have HC8_v30 := Hid.mk8 (HC8_v29.out.below bv30)
              have HP_v30 := Hid.mk8 (HP_v29.out.below bv30)
              have HQ_v30 := Hid.mk8 (HQ_v29.out.below bv30)
              have HE8_v30 := Hid.mk8 (HE8_v29.out.below bv30)
              have HPE_v30 := Hid.mk8 (HPE_v29.out.below bv30)
              have HQE_v30 := Hid.mk8 (HQE_v29.out.below bv30)
              clear cv30 bv30 hbv29 HA8_v29 HB8_v29 HC8_v29 HP_v29 HQ_v29 HE8_v29 HPE_v29 HQE_v29
              go_wp2
              go_ret
              exact ⟨rfl, hbv30⟩
            · have f4 : ¬ Fits8 (A ++ cat8 A' A'') := fun h => f3 (HF.out.1.1 h)
              have cx21 := cS.out (cat8 A A') (A'') _ _ _ _ _ _ wu20 hbu20 HP_u20.out HC8_u20.out HF.out.2.1
              go_wp2_with fail
              refine cx21.mono ?_; rintro r wx21 ⟨dv, er, rfl, -, y1, bx21⟩
              have hbx21 := hbu20.trans (bx21.mono hbu20.size)
              have HA8_x21 := Hid.mk8 (HA8_u20.out.below bx21)
              have HB8_x21 := Hid.mk8 (HB8_u20.out.below bx21)
              have HC8_x21 := Hid.mk8 (HC8_u20.out.below bx21)
              have HP_x21 := Hid.mk8 (HP_u20.out.below bx21)
              have HQ_x21 := Hid.mk8 (HQ_u20.out.below bx21)
              have HE8_x21 := Hid.mk8 (HE8_u20.out.below bx21)
              obtain ⟨rfl, rfl⟩ := y1 f3
              clear cx21 bx21 hbu20 HA8_u20 HB8_u20 HC8_u20 HP_u20 HQ_u20 HE8_u20 y1
              have cx22 := cS.out (A) (cat8 A' A'') _ _ _ _ _ _ wx21 hbx21 HA8_x21.out HQ_x21.out HF.out.2.2
              go_wp2_with fail
              refine cx22.mono ?_; rintro r wx22 ⟨dv, er, rfl, -, y1, bx22⟩
              have hbx22 := hbx21.trans (bx22.mono hbx21.size)
              have HA8_x22 := Hid.mk8 (HA8_x21.out.below bx22)
              have HB8_x22 := Hid.mk8 (HB8_x21.out.below bx22)
              have HC8_x22 := Hid.mk8 (HC8_x21.out.below bx22)
              have HP_x22 := Hid.mk8 (HP_x21.out.below bx22)
              have HQ_x22 := Hid.mk8 (HQ_x21.out.below bx22)
              have HE8_x22 := Hid.mk8 (HE8_x21.out.below bx22)
              obtain ⟨rfl, rfl⟩ := y1 f4
              clear cx22 bx22 hbx21 HA8_x21 HB8_x21 HC8_x21 HP_x21 HQ_x21 HE8_x21 y1
              clear f3 f4
              have cx23 := cN.out 11 (by decide) wx22 hbx22
              rw [show errOf a 11 = errV a 10 from rfl] at cx23
              go_wp2_with fail
              refine cx23.mono ?_; rintro r wx23 ⟨rfl, bx23⟩
              have hbx23 := hbx22.trans (bx23.mono hbx22.size)
              have HA8_x23 := Hid.mk8 (HA8_x22.out.below bx23)
              have HB8_x23 := Hid.mk8 (HB8_x22.out.below bx23)
              have HC8_x23 := Hid.mk8 (HC8_x22.out.below bx23)
              have HP_x23 := Hid.mk8 (HP_x22.out.below bx23)
              have HQ_x23 := Hid.mk8 (HQ_x22.out.below bx23)
              have HE8_x23 := Hid.mk8 (HE8_x22.out.below bx23)
              clear cx23 bx23 hbx22 HA8_x22 HB8_x22 HC8_x22 HP_x22 HQ_x22 HE8_x22
              have cx24 := cN.out 11 (by decide) wx23 hbx23
              rw [show errOf a 11 = errV a 10 from rfl] at cx24
              go_wp2_with fail
              refine cx24.mono ?_; rintro r wx24 ⟨rfl, bx24⟩
              have hbx24 := hbx23.trans (bx24.mono hbx23.size)
              have HA8_x24 := Hid.mk8 (HA8_x23.out.below bx24)
              have HB8_x24 := Hid.mk8 (HB8_x23.out.below bx24)
              have HC8_x24 := Hid.mk8 (HC8_x23.out.below bx24)
              have HP_x24 := Hid.mk8 (HP_x23.out.below bx24)
              have HQ_x24 := Hid.mk8 (HQ_x23.out.below bx24)
              have HE8_x24 := Hid.mk8 (HE8_x23.out.below bx24)
              clear cx24 bx24 hbx23 HA8_x23 HB8_x23 HC8_x23 HP_x23 HQ_x23 HE8_x23
              have hfe : Fits8 (A ++ []) := by rw [List.append_nil]; exact HA8_x24.out.fits
              have hfe2 : Fits8 ([] ++ A) := HA8_x24.out.fits
              have cx25 := cS.out (A) ([]) _ _ _ _ _ _ wx24 hbx24 HA8_x24.out HE8_x24.out (show Two8 A [] from by have := HL.out; exact ⟨by show A.length + 0 ≤ _; omega, by show txtS A + 0 ≤ _; omega⟩)
              go_wp2_with fail
              refine cx25.mono ?_; rintro r wx25 ⟨dv, er, rfl, y1, -, bx25⟩
              have hbx25 := hbx24.trans (bx25.mono hbx24.size)
              have HA8_x25 := Hid.mk8 (HA8_x24.out.below bx25)
              have HB8_x25 := Hid.mk8 (HB8_x24.out.below bx25)
              have HC8_x25 := Hid.mk8 (HC8_x24.out.below bx25)
              have HP_x25 := Hid.mk8 (HP_x24.out.below bx25)
              have HQ_x25 := Hid.mk8 (HQ_x24.out.below bx25)
              have HE8_x25 := Hid.mk8 (HE8_x24.out.below bx25)
              obtain ⟨rfl, ⟨qp, rfl⟩, C1, C2, hd0⟩ := y1 hfe
              have HPE_x25 := Hid.mk8 (hd0)
              clear cx25 bx25 hbx24 HA8_x24 HB8_x24 HC8_x24 HP_x24 HQ_x24 HE8_x24 y1 hd0
              have cx26 := cS.out ([]) (A) _ _ _ _ _ _ wx25 hbx25 HE8_x25.out HA8_x25.out (show Two8 [] A from by have := HL.out; exact ⟨by show 0 + A.length ≤ _; omega, by show 0 + txtS A ≤ _; omega⟩)
              go_wp2_with fail
              refine cx26.mono ?_; rintro r wx26 ⟨dv, er, rfl, y1, -, bx26⟩
              have hbx26 := hbx25.trans (bx26.mono hbx25.size)
              have HA8_x26 := Hid.mk8 (HA8_x25.out.below bx26)
              have HB8_x26 := Hid.mk8 (HB8_x25.out.below bx26)
              have HC8_x26 := Hid.mk8 (HC8_x25.out.below bx26)
              have HP_x26 := Hid.mk8 (HP_x25.out.below bx26)
              have HQ_x26 := Hid.mk8 (HQ_x25.out.below bx26)
              have HE8_x26 := Hid.mk8 (HE8_x25.out.below bx26)
              have HPE_x26 := Hid.mk8 (HPE_x25.out.below bx26)
              obtain ⟨rfl, ⟨qq, rfl⟩, C1, C2, hd0⟩ := y1 hfe2
              have HQE_x26 := Hid.mk8 (hd0)
              clear cx26 bx26 hbx25 HA8_x25 HB8_x25 HC8_x25 HP_x25 HQ_x25 HE8_x25 HPE_x25 y1 hd0
              have cx27 := cI.out _ A _ (.slice p D0.length cap) _ _ wx26 HPE_x26.out (HA.out wx26 hbx26) (by have := HL.out; omega) (fun e he => (HO.out.2.2.2.1 e he).n)
              rw [cat_nil HCA.out, decide_eq_true rfl] at cx27
              go_wp2_with fail
              refine cx27.mono ?_; rintro r wx27 ⟨rfl, bx27⟩
              have hbx27 := hbx26.trans (bx27.mono hbx26.size)
              have HA8_x27 := Hid.mk8 (HA8_x26.out.below bx27)
              have HB8_x27 := Hid.mk8 (HB8_x26.out.below bx27)
              have HC8_x27 := Hid.mk8 (HC8_x26.out.below bx27)
              have HP_x27 := Hid.mk8 (HP_x26.out.below bx27)
              have HQ_x27 := Hid.mk8 (HQ_x26.out.below bx27)
              have HE8_x27 := Hid.mk8 (HE8_x26.out.below bx27)
              have HPE_x27 := Hid.mk8 (HPE_x26.out.below bx27)
              have HQE_x27 := Hid.mk8 (HQE_x26.out.below bx27)
              clear cx27 bx27 hbx26 HA8_x26 HB8_x26 HC8_x26 HP_x26 HQ_x26 HE8_x26 HPE_x26 HQE_x26
              have cx28 := cI.out _ A _ (.slice p D0.length cap) _ _ wx27 HQE_x27.out (HA.out wx27 hbx27) (by have := HL.out; omega) (fun e he => (HO.out.2.2.2.1 e he).n)
              rw [nil_cat HCA.out, decide_eq_true rfl] at cx28
              go_wp2_with fail
              refine cx28.mono ?_; rintro r wx28 ⟨rfl, bx28⟩
              have hbx28 := hbx27.trans (bx28.mono hbx27.size)
              have HA8_x28 := Hid.mk8 (HA8_x27.out.below bx28)
              have HB8_x28 := Hid.mk8 (HB8_x27.out.below bx28)
              have HC8_x28 := Hid.mk8 (HC8_x27.out.below bx28)
              have HP_x28 := Hid.mk8 (HP_x27.out.below bx28)
              have HQ_x28 := Hid.mk8 (HQ_x27.out.below bx28)
              have HE8_x28 := Hid.mk8 (HE8_x27.out.below bx28)
              have HPE_x28 := Hid.mk8 (HPE_x27.out.below bx28)
              have HQE_x28 := Hid.mk8 (HQE_x27.out.below bx28)
              clear cx28 bx28 hbx27 HA8_x27 HB8_x27 HC8_x27 HP_x27 HQ_x27 HE8_x27 HPE_x27 HQE_x27
              go_wp2
              go_ret
              exact ⟨rfl, hbx28⟩
          · have cr6 := cS.out (A') (A'') _ _ _ _ _ _ wp5 hbp5 HB8_p5.out HC8_p5.out (show Two8 A' A'' from by have := HL.out; exact ⟨by omega, by omega⟩)
            go_wp2_with fail
            refine cr6.mono ?_; rintro r wr6 ⟨dv, er, rfl, -, y1, br6⟩
            have hbr6 := hbp5.trans (br6.mono hbp5.size)
            have HA8_r6 := Hid.mk8 (HA8_p5.out.below br6)
            have HB8_r6 := Hid.mk8 (HB8_p5.out.below br6)
            have HC8_r6 := Hid.mk8 (HC8_p5.out.below br6)
            have HP_r6 := Hid.mk8 (HP_p5.out.below br6)
            obtain ⟨rfl, rfl⟩ := y1 f2
            clear cr6 br6 hbp5 HA8_p5 HB8_p5 HC8_p5 HP_p5 y1
            have cr7 := empty_any wr6
            go_wp2_with fail
            refine cr7.mono ?_; rintro r wr7 ⟨ve, rfl, hde, br7⟩
            have hbr7 := hbr6.trans (br7.mono hbr6.size)
            have HA8_r7 := Hid.mk8 (HA8_r6.out.below br7)
            have HB8_r7 := Hid.mk8 (HB8_r6.out.below br7)
            have HC8_r7 := Hid.mk8 (HC8_r6.out.below br7)
            have HP_r7 := Hid.mk8 (HP_r6.out.below br7)
            obtain ⟨qe, pve, PLe, rfl, _⟩ := id hde
            have HE8_r7 := Hid.mk8 (empty_dle hde)
            clear cr7 br7 hbr6 HA8_r6 HB8_r6 HC8_r6 HP_r6 hde
            clear f2 f1 g1 g2 hAB nA nB fA fB lP
            have d1 : decide (BA + BB > 1099511627776) = false := decide_eq_false (by omega)
            have d2 : decide (1099511627776 < BA + BB) = false := decide_eq_false (by omega)
            have d3 : decide (RA + RB > 1099511627776) = false := decide_eq_false (by omega)
            have d4 : decide (1099511627776 < RA + RB) = false := decide_eq_false (by omega)
            have cBA : Hid (∀ W, Below wr7.heap.size wr7 W → Calls Tryz.prog 9 #[.pointer (some ⟨qa, 0, none⟩)] W fun r w' => r = .returned (.int .i64 BA) ∧ Below wr7.heap.size wr7 w') := fun W hW => from_below hW (by rw [← HS8.out.1]; exact base8_any _ _ W (HA8_r7.out.below hW))
            have cBB : Hid (∀ W, Below wr7.heap.size wr7 W → Calls Tryz.prog 9 #[.pointer (some ⟨qb, 0, none⟩)] W fun r w' => r = .returned (.int .i64 BB) ∧ Below wr7.heap.size wr7 w') := fun W hW => from_below hW (by rw [← HS8.out.2.2.1]; exact base8_any _ _ W (HB8_r7.out.below hW))
            have cRA : Hid (∀ W, Below wr7.heap.size wr7 W → Calls Tryz.prog 10 #[.pointer (some ⟨qa, 0, none⟩)] W fun r w' => r = .returned (.int .i64 RA) ∧ Below wr7.heap.size wr7 w') := fun W hW => from_below hW (by rw [← HS8.out.2.1]; exact result8_any _ _ W (HA8_r7.out.below hW))
            have cRB : Hid (∀ W, Below wr7.heap.size wr7 W → Calls Tryz.prog 10 #[.pointer (some ⟨qb, 0, none⟩)] W fun r w' => r = .returned (.int .i64 RB) ∧ Below wr7.heap.size wr7 w') := fun W hW => from_below hW (by rw [← HS8.out.2.2.2]; exact result8_any _ _ W (HB8_r7.out.below hW))
            have bdr8 : Below wr7.heap.size wr7 wr7.drew := (Below.refl _ _).drew
            go_wp2_with fail
            go_region_held3 (fun w' => Below wr7.heap.size wr7 w')
              (first | (with_reducible assumption) | exact (Below.refl _ _).drew)
              (first
                | (go_at_call_of 9 (Value.pointer (some ⟨qa, 0, none⟩)); refine (cBA.out _ ?_).mono ?_; (· first | (with_reducible assumption) | (apply And.right; with_reducible assumption)); rintro r wr8x ⟨rfl, br8x⟩)
                | (go_at_call_of 9 (Value.pointer (some ⟨qb, 0, none⟩)); refine (cBB.out _ ?_).mono ?_; (· first | (with_reducible assumption) | (apply And.right; with_reducible assumption)); rintro r wr8y ⟨rfl, br8y⟩)
                | (go_at_call_of 10 (Value.pointer (some ⟨qa, 0, none⟩)); refine (cRA.out _ ?_).mono ?_; (· first | (with_reducible assumption) | (apply And.right; with_reducible assumption)); rintro r wr8z ⟨rfl, br8z⟩)
                | (go_at_call_of 10 (Value.pointer (some ⟨qb, 0, none⟩)); refine (cRB.out _ ?_).mono ?_; (· first | (with_reducible assumption) | (apply And.right; with_reducible assumption)); rintro r wr8t ⟨rfl, br8t⟩))
            have hbr8 := hbr7.trans (br8t.mono hbr7.size)
            have HA8_r8 := Hid.mk8 (HA8_r7.out.below br8t)
            have HB8_r8 := Hid.mk8 (HB8_r7.out.below br8t)
            have HC8_r8 := Hid.mk8 (HC8_r7.out.below br8t)
            have HP_r8 := Hid.mk8 (HP_r7.out.below br8t)
            have HE8_r8 := Hid.mk8 (HE8_r7.out.below br8t)
            clear cBA cBB cRA cRB bdr8 hbr7 HA8_r7 HB8_r7 HC8_r7 HP_r7 HE8_r7 d1 d2 d3 d4
            go_wp2
            go_ret
            exact ⟨rfl, hbr8⟩
        · have cn5 := cS.out (A) (A') _ _ _ _ _ _ w4 hb4 HDA.out HDB.out (show Two8 A A' from by have := HL.out; exact ⟨by omega, by omega⟩)
          go_wp2_with fail
          refine cn5.mono ?_; rintro r wn5 ⟨dv, er, rfl, -, y1, bn5⟩
          have hbn5 := hb4.trans (bn5.mono hb4.size)
          have HA8_n5 := Hid.mk8 (HDA.out.below bn5)
          have HB8_n5 := Hid.mk8 (HDB.out.below bn5)
          have HC8_n5 := Hid.mk8 (HDC.out.below bn5)
          obtain ⟨rfl, rfl⟩ := y1 f1
          clear cn5 bn5 hb4 HDA HDB HDC y1
          by_cases f2 : Fits8 (A' ++ A'')
          · have cy6 := cS.out (A') (A'') _ _ _ _ _ _ wn5 hbn5 HB8_n5.out HC8_n5.out (show Two8 A' A'' from by have := HL.out; exact ⟨by omega, by omega⟩)
            go_wp2_with fail
            refine cy6.mono ?_; rintro r wy6 ⟨dv, er, rfl, y1, -, by6⟩
            have hby6 := hbn5.trans (by6.mono hbn5.size)
            have HA8_y6 := Hid.mk8 (HA8_n5.out.below by6)
            have HB8_y6 := Hid.mk8 (HB8_n5.out.below by6)
            have HC8_y6 := Hid.mk8 (HC8_n5.out.below by6)
            obtain ⟨rfl, ⟨qbc, rfl⟩, C1, C2, hd0⟩ := y1 f2
            have HQ_y6 := Hid.mk8 (hd0)
            clear cy6 by6 hbn5 HA8_n5 HB8_n5 HC8_n5 y1 hd0
            have cy7 := empty_any wy6
            go_wp2_with fail
            refine cy7.mono ?_; rintro r wy7 ⟨ve, rfl, hde, by7⟩
            have hby7 := hby6.trans (by7.mono hby6.size)
            have HA8_y7 := Hid.mk8 (HA8_y6.out.below by7)
            have HB8_y7 := Hid.mk8 (HB8_y6.out.below by7)
            have HC8_y7 := Hid.mk8 (HC8_y6.out.below by7)
            have HQ_y7 := Hid.mk8 (HQ_y6.out.below by7)
            obtain ⟨qe, pve, PLe, rfl, _⟩ := id hde
            have HE8_y7 := Hid.mk8 (empty_dle hde)
            clear cy7 by7 hby6 HA8_y6 HB8_y6 HC8_y6 HQ_y6 hde
            by_cases g1 : BA + BB > 1099511627776
            · clear f2 f1 hAB nA nB fA fB
              have d1 : decide (BA + BB > 1099511627776) = true := decide_eq_true (by omega)
              have d2 : decide (1099511627776 < BA + BB) = true := decide_eq_true (by omega)
              clear g1
              have cBA : Hid (∀ W, Below wy7.heap.size wy7 W → Calls Tryz.prog 9 #[.pointer (some ⟨qa, 0, none⟩)] W fun r w' => r = .returned (.int .i64 BA) ∧ Below wy7.heap.size wy7 w') := fun W hW => from_below hW (by rw [← HS8.out.1]; exact base8_any _ _ W (HA8_y7.out.below hW))
              have cBB : Hid (∀ W, Below wy7.heap.size wy7 W → Calls Tryz.prog 9 #[.pointer (some ⟨qb, 0, none⟩)] W fun r w' => r = .returned (.int .i64 BB) ∧ Below wy7.heap.size wy7 w') := fun W hW => from_below hW (by rw [← HS8.out.2.2.1]; exact base8_any _ _ W (HB8_y7.out.below hW))
              have cRA : Hid (∀ W, Below wy7.heap.size wy7 W → Calls Tryz.prog 10 #[.pointer (some ⟨qa, 0, none⟩)] W fun r w' => r = .returned (.int .i64 RA) ∧ Below wy7.heap.size wy7 w') := fun W hW => from_below hW (by rw [← HS8.out.2.1]; exact result8_any _ _ W (HA8_y7.out.below hW))
              have cRB : Hid (∀ W, Below wy7.heap.size wy7 W → Calls Tryz.prog 10 #[.pointer (some ⟨qb, 0, none⟩)] W fun r w' => r = .returned (.int .i64 RB) ∧ Below wy7.heap.size wy7 w') := fun W hW => from_below hW (by rw [← HS8.out.2.2.2]; exact result8_any _ _ W (HB8_y7.out.below hW))
              have bdyg8 : Below wy7.heap.size wy7 wy7.drew := (Below.refl _ _).drew
              go_wp2_with fail
              first
                | go_region_with (first
                  | (go_at_call_of 9 (Value.pointer (some ⟨qa, 0, none⟩)); refine (cBA.out _ ?_).mono ?_; (· assumption); rintro r wyg8x ⟨rfl, byg8x⟩)
                  | (go_at_call_of 9 (Value.pointer (some ⟨qb, 0, none⟩)); refine (cBB.out _ ?_).mono ?_; (· assumption); rintro r wyg8y ⟨rfl, byg8y⟩))
                | fail "no region"
              all_goals
                have hbyg8 := hby7.trans (byg8y.mono hby7.size)
                have HA8_yg8 := Hid.mk8 (HA8_y7.out.below byg8y)
                have HB8_yg8 := Hid.mk8 (HB8_y7.out.below byg8y)
                have HC8_yg8 := Hid.mk8 (HC8_y7.out.below byg8y)
                have HQ_yg8 := Hid.mk8 (HQ_y7.out.below byg8y)
                have HE8_yg8 := Hid.mk8 (HE8_y7.out.below byg8y)
                clear cBA cBB cRA cRB bdyg8 hby7 HA8_y7 HB8_y7 HC8_y7 HQ_y7 HE8_y7 d1 d2
                go_wp2
                go_ret
                exact ⟨rfl, hbyg8⟩
            · have g2 : RA + RB > 1099511627776 := by
                have h : ¬ (BA + BB ≤ 1099511627776 ∧ RA + RB ≤ 1099511627776) := fun h => f1 (hAB.2 h)
                omega
              clear f2 f1 hAB nA nB fA fB
              have d1 : decide (BA + BB > 1099511627776) = false := decide_eq_false (by omega)
              have d2 : decide (1099511627776 < BA + BB) = false := decide_eq_false (by omega)
              have d3 : decide (RA + RB > 1099511627776) = true := decide_eq_true (by omega)
              have d4 : decide (1099511627776 < RA + RB) = true := decide_eq_true (by omega)
              have cBA : Hid (∀ W, Below wy7.heap.size wy7 W → Calls Tryz.prog 9 #[.pointer (some ⟨qa, 0, none⟩)] W fun r w' => r = .returned (.int .i64 BA) ∧ Below wy7.heap.size wy7 w') := fun W hW => from_below hW (by rw [← HS8.out.1]; exact base8_any _ _ W (HA8_y7.out.below hW))
              have cBB : Hid (∀ W, Below wy7.heap.size wy7 W → Calls Tryz.prog 9 #[.pointer (some ⟨qb, 0, none⟩)] W fun r w' => r = .returned (.int .i64 BB) ∧ Below wy7.heap.size wy7 w') := fun W hW => from_below hW (by rw [← HS8.out.2.2.1]; exact base8_any _ _ W (HB8_y7.out.below hW))
              have cRA : Hid (∀ W, Below wy7.heap.size wy7 W → Calls Tryz.prog 10 #[.pointer (some ⟨qa, 0, none⟩)] W fun r w' => r = .returned (.int .i64 RA) ∧ Below wy7.heap.size wy7 w') := fun W hW => from_below hW (by rw [← HS8.out.2.1]; exact result8_any _ _ W (HA8_y7.out.below hW))
              have cRB : Hid (∀ W, Below wy7.heap.size wy7 W → Calls Tryz.prog 10 #[.pointer (some ⟨qb, 0, none⟩)] W fun r w' => r = .returned (.int .i64 RB) ∧ Below wy7.heap.size wy7 w') := fun W hW => from_below hW (by rw [← HS8.out.2.2.2]; exact result8_any _ _ W (HB8_y7.out.below hW))
              have bdyh8 : Below wy7.heap.size wy7 wy7.drew := (Below.refl _ _).drew
              go_wp2_with fail
              go_region_held3 (fun w' => Below wy7.heap.size wy7 w')
                (first | (with_reducible assumption) | exact (Below.refl _ _).drew)
                (first
                  | (go_at_call_of 9 (Value.pointer (some ⟨qa, 0, none⟩)); refine (cBA.out _ ?_).mono ?_; (· first | (with_reducible assumption) | (apply And.right; with_reducible assumption)); rintro r wyh8x ⟨rfl, byh8x⟩)
                  | (go_at_call_of 9 (Value.pointer (some ⟨qb, 0, none⟩)); refine (cBB.out _ ?_).mono ?_; (· first | (with_reducible assumption) | (apply And.right; with_reducible assumption)); rintro r wyh8y ⟨rfl, byh8y⟩)
                  | (go_at_call_of 10 (Value.pointer (some ⟨qa, 0, none⟩)); refine (cRA.out _ ?_).mono ?_; (· first | (with_reducible assumption) | (apply And.right; with_reducible assumption)); rintro r wyh8z ⟨rfl, byh8z⟩)
                  | (go_at_call_of 10 (Value.pointer (some ⟨qb, 0, none⟩)); refine (cRB.out _ ?_).mono ?_; (· first | (with_reducible assumption) | (apply And.right; with_reducible assumption)); rintro r wyh8t ⟨rfl, byh8t⟩))
              have hbyh8 := hby7.trans (byh8t.mono hby7.size)
              have HA8_yh8 := Hid.mk8 (HA8_y7.out.below byh8t)
              have HB8_yh8 := Hid.mk8 (HB8_y7.out.below byh8t)
              have HC8_yh8 := Hid.mk8 (HC8_y7.out.below byh8t)
              have HQ_yh8 := Hid.mk8 (HQ_y7.out.below byh8t)
              have HE8_yh8 := Hid.mk8 (HE8_y7.out.below byh8t)
              clear cBA cBB cRA cRB bdyh8 hby7 HA8_y7 HB8_y7 HC8_y7 HQ_y7 HE8_y7 d1 d2 d3 d4
              go_wp2
              go_ret
              exact ⟨rfl, hbyh8⟩
          · have ct6 := cS.out (A') (A'') _ _ _ _ _ _ wn5 hbn5 HB8_n5.out HC8_n5.out (show Two8 A' A'' from by have := HL.out; exact ⟨by omega, by omega⟩)
            go_wp2_with fail
            refine ct6.mono ?_; rintro r wt6 ⟨dv, er, rfl, -, y1, bt6⟩
            have hbt6 := hbn5.trans (bt6.mono hbn5.size)
            have HA8_t6 := Hid.mk8 (HA8_n5.out.below bt6)
            have HB8_t6 := Hid.mk8 (HB8_n5.out.below bt6)
            have HC8_t6 := Hid.mk8 (HC8_n5.out.below bt6)
            obtain ⟨rfl, rfl⟩ := y1 f2
            clear ct6 bt6 hbn5 HA8_n5 HB8_n5 HC8_n5 y1
            have ct7 := empty_any wt6
            go_wp2_with fail
            refine ct7.mono ?_; rintro r wt7 ⟨ve, rfl, hde, bt7⟩
            have hbt7 := hbt6.trans (bt7.mono hbt6.size)
            have HA8_t7 := Hid.mk8 (HA8_t6.out.below bt7)
            have HB8_t7 := Hid.mk8 (HB8_t6.out.below bt7)
            have HC8_t7 := Hid.mk8 (HC8_t6.out.below bt7)
            obtain ⟨qe, pve, PLe, rfl, _⟩ := id hde
            have HE8_t7 := Hid.mk8 (empty_dle hde)
            clear ct7 bt7 hbt6 HA8_t6 HB8_t6 HC8_t6 hde
            by_cases g1 : BA + BB > 1099511627776
            · clear f2 f1 hAB nA nB fA fB
              have d1 : decide (BA + BB > 1099511627776) = true := decide_eq_true (by omega)
              have d2 : decide (1099511627776 < BA + BB) = true := decide_eq_true (by omega)
              clear g1
              have cBA : Hid (∀ W, Below wt7.heap.size wt7 W → Calls Tryz.prog 9 #[.pointer (some ⟨qa, 0, none⟩)] W fun r w' => r = .returned (.int .i64 BA) ∧ Below wt7.heap.size wt7 w') := fun W hW => from_below hW (by rw [← HS8.out.1]; exact base8_any _ _ W (HA8_t7.out.below hW))
              have cBB : Hid (∀ W, Below wt7.heap.size wt7 W → Calls Tryz.prog 9 #[.pointer (some ⟨qb, 0, none⟩)] W fun r w' => r = .returned (.int .i64 BB) ∧ Below wt7.heap.size wt7 w') := fun W hW => from_below hW (by rw [← HS8.out.2.2.1]; exact base8_any _ _ W (HB8_t7.out.below hW))
              have cRA : Hid (∀ W, Below wt7.heap.size wt7 W → Calls Tryz.prog 10 #[.pointer (some ⟨qa, 0, none⟩)] W fun r w' => r = .returned (.int .i64 RA) ∧ Below wt7.heap.size wt7 w') := fun W hW => from_below hW (by rw [← HS8.out.2.1]; exact result8_any _ _ W (HA8_t7.out.below hW))
              have cRB : Hid (∀ W, Below wt7.heap.size wt7 W → Calls Tryz.prog 10 #[.pointer (some ⟨qb, 0, none⟩)] W fun r w' => r = .returned (.int .i64 RB) ∧ Below wt7.heap.size wt7 w') := fun W hW => from_below hW (by rw [← HS8.out.2.2.2]; exact result8_any _ _ W (HB8_t7.out.below hW))
              have bdtg8 : Below wt7.heap.size wt7 wt7.drew := (Below.refl _ _).drew
              go_wp2_with fail
              first
                | go_region_with (first
                  | (go_at_call_of 9 (Value.pointer (some ⟨qa, 0, none⟩)); refine (cBA.out _ ?_).mono ?_; (· assumption); rintro r wtg8x ⟨rfl, btg8x⟩)
                  | (go_at_call_of 9 (Value.pointer (some ⟨qb, 0, none⟩)); refine (cBB.out _ ?_).mono ?_; (· assumption); rintro r wtg8y ⟨rfl, btg8y⟩))
                | fail "no region"
              all_goals
                have hbtg8 := hbt7.trans (btg8y.mono hbt7.size)
                have HA8_tg8 := Hid.mk8 (HA8_t7.out.below btg8y)
                have HB8_tg8 := Hid.mk8 (HB8_t7.out.below btg8y)
                have HC8_tg8 := Hid.mk8 (HC8_t7.out.below btg8y)
                have HE8_tg8 := Hid.mk8 (HE8_t7.out.below btg8y)
                clear cBA cBB cRA cRB bdtg8 hbt7 HA8_t7 HB8_t7 HC8_t7 HE8_t7 d1 d2
                go_wp2
                go_ret
                exact ⟨rfl, hbtg8⟩
            · have g2 : RA + RB > 1099511627776 := by
                have h : ¬ (BA + BB ≤ 1099511627776 ∧ RA + RB ≤ 1099511627776) := fun h => f1 (hAB.2 h)
                omega
              clear f2 f1 hAB nA nB fA fB
              have d1 : decide (BA + BB > 1099511627776) = false := decide_eq_false (by omega)
              have d2 : decide (1099511627776 < BA + BB) = false := decide_eq_false (by omega)
              have d3 : decide (RA + RB > 1099511627776) = true := decide_eq_true (by omega)
              have d4 : decide (1099511627776 < RA + RB) = true := decide_eq_true (by omega)
              have cBA : Hid (∀ W, Below wt7.heap.size wt7 W → Calls Tryz.prog 9 #[.pointer (some ⟨qa, 0, none⟩)] W fun r w' => r = .returned (.int .i64 BA) ∧ Below wt7.heap.size wt7 w') := fun W hW => from_below hW (by rw [← HS8.out.1]; exact base8_any _ _ W (HA8_t7.out.below hW))
              have cBB : Hid (∀ W, Below wt7.heap.size wt7 W → Calls Tryz.prog 9 #[.pointer (some ⟨qb, 0, none⟩)] W fun r w' => r = .returned (.int .i64 BB) ∧ Below wt7.heap.size wt7 w') := fun W hW => from_below hW (by rw [← HS8.out.2.2.1]; exact base8_any _ _ W (HB8_t7.out.below hW))
              have cRA : Hid (∀ W, Below wt7.heap.size wt7 W → Calls Tryz.prog 10 #[.pointer (some ⟨qa, 0, none⟩)] W fun r w' => r = .returned (.int .i64 RA) ∧ Below wt7.heap.size wt7 w') := fun W hW => from_below hW (by rw [← HS8.out.2.1]; exact result8_any _ _ W (HA8_t7.out.below hW))
              have cRB : Hid (∀ W, Below wt7.heap.size wt7 W → Calls Tryz.prog 10 #[.pointer (some ⟨qb, 0, none⟩)] W fun r w' => r = .returned (.int .i64 RB) ∧ Below wt7.heap.size wt7 w') := fun W hW => from_below hW (by rw [← HS8.out.2.2.2]; exact result8_any _ _ W (HB8_t7.out.below hW))
              have bdth8 : Below wt7.heap.size wt7 wt7.drew := (Below.refl _ _).drew
              go_wp2_with fail
              go_region_held3 (fun w' => Below wt7.heap.size wt7 w')
                (first | (with_reducible assumption) | exact (Below.refl _ _).drew)
                (first
                  | (go_at_call_of 9 (Value.pointer (some ⟨qa, 0, none⟩)); refine (cBA.out _ ?_).mono ?_; (· first | (with_reducible assumption) | (apply And.right; with_reducible assumption)); rintro r wth8x ⟨rfl, bth8x⟩)
                  | (go_at_call_of 9 (Value.pointer (some ⟨qb, 0, none⟩)); refine (cBB.out _ ?_).mono ?_; (· first | (with_reducible assumption) | (apply And.right; with_reducible assumption)); rintro r wth8y ⟨rfl, bth8y⟩)
                  | (go_at_call_of 10 (Value.pointer (some ⟨qa, 0, none⟩)); refine (cRA.out _ ?_).mono ?_; (· first | (with_reducible assumption) | (apply And.right; with_reducible assumption)); rintro r wth8z ⟨rfl, bth8z⟩)
                  | (go_at_call_of 10 (Value.pointer (some ⟨qb, 0, none⟩)); refine (cRB.out _ ?_).mono ?_; (· first | (with_reducible assumption) | (apply And.right; with_reducible assumption)); rintro r wth8t ⟨rfl, bth8t⟩))
              have hbth8 := hbt7.trans (bth8t.mono hbt7.size)
              have HA8_th8 := Hid.mk8 (HA8_t7.out.below bth8t)
              have HB8_th8 := Hid.mk8 (HB8_t7.out.below bth8t)
              have HC8_th8 := Hid.mk8 (HC8_t7.out.below bth8t)
              have HE8_th8 := Hid.mk8 (HE8_t7.out.below bth8t)
              clear cBA cBB cRA cRB bdth8 hbt7 HA8_t7 HB8_t7 HC8_t7 HE8_t7 d1 d2 d3 d4
              go_wp2
              go_ret
              exact ⟨rfl, hbth8⟩
      · obtain rfl := K3_4.out.no (by simpa using k3)
        clear k3
        go_wp2
        go_ret
        exact ⟨rfl, hb4⟩
    · obtain rfl := K2_4.out.no (by simpa using k2)
      clear k2
      go_wp2
      go_ret
      exact ⟨rfl, hb4⟩
  · obtain rfl := K1_4.out.no (by simpa using k1)
    clear k1
    go_wp2
    go_ret
    exact ⟨rfl, hb4⟩
end Go.Proofs.YtgimcloadjjefabGreatDoor
