/- The document's Canonical. What vellumref04.copied and vellumref04.Join answer. What vellumref04.Length, Cells and Newlines answer of inserts. The document's deltas: Same, SameOp, Insert, Len. The document's deltas: Len. vellumhand.Make, Is; vellumlaw06's gone, text, large, lives. vellumlaw06.lives answers true. vellumlaw08: of, is, fixed. vellumlaw08: fixed answers true. Canonical lists of operations in order are in order. A delta of a list made canonical. The errors' numbers: what vellumnum.list and vellumnum.Num answer where all nineteen sentinels lie as laid. Deltas of lists made canonical; of all arguments vellumlaw08.MeasureShifts answers true. A piece cut in two; a piece taken. What a Walker takes. Next and Rest of a Walker. measure: take: the next cells of a Walker, as pieces. measure: Slice. A document cut at two places: of all arguments vellumlaw08.MeasureCuts answers true. -/
import Derived.Test.YtgimcloadjjefabGreatDoorMgf
import Derived.Test.YtgimcloadjjefabGreatDoorMga
import Derived.Deep.RegionHeld3
import Derived.Deep.DeepCutAuto
import Derived.Test.YtgimcloadjjefabGreatDoorMgd
import Derived.Test.YtgimcloadjjefabGreatDoorSw
import Derived.Test.YtgimcloadjjefabGreatDoorQe
import Derived.Test.YtgimcloadjjefabGreatDoorEr

/- The document's Canonical. -/
namespace Go.Proofs.YtgimcloadjjefabGreatDoor
open Go Go.RowKit Go.Lib
set_option linter.unusedVariables false

set_option maxHeartbeats 4000000 in
set_option maxRecDepth 100000 in
theorem refCanon_any {I : List Nat} {a : Nat → Addr} (v : Value) (E : List Op5) (w : World) (hS : Std I a w) (hv : ReO w v E) (hF : FitL E) (hl : E.length ≤ 1048576) :
    Calls Tryz.prog 21 #[v] w fun r w' => r = .returned (.bool (canonB E)) ∧ Below w.heap.size w w' := by
  have c1 := refLens_any v E w hS hv hF hl
  obtain ⟨D0, hrow, hre⟩ := hv
  have hDE := forall2_len hre
  obtain ⟨n, hn⟩ : ∃ n, D0.length = n := ⟨_, rfl⟩
  obtain ⟨p, cap, rfl, hcap, hnz, hc⟩ := hrow
  rw [hn] at hcap c1 ⊢
  obtain ⟨x9, hx9⟩ : ∃ x, lensL E = x := ⟨_, rfl⟩
  rw [hx9] at c1
  obtain ⟨b9, r9, e9⟩ := x9
  simp only at c1
  have HC : Hid (∀ (j : Nat) (d : OV), D0[j]? = some d → ∃ b off, p = some ⟨b, off, none⟩ ∧ OpAt w b (off + j * 7) d) := hc
  have HN : Hid (D0.length = n ∧ E.length = n) := ⟨hn, by rw [← hDE, hn]⟩
  have hl : n ≤ 1048576 := by rw [← hn, hDE]; exact hl
  have HK : Hid (∀ (k : Nat) d d', D0[k]? = some d → D0[k + 1]? = some d' → ∃ e e', E[k]? = some e ∧ E[k + 1]? = some e' ∧ ∀ W, Below w.heap.size w W → Calls Tryz.prog 37 #[ovV d, ovV d'] W fun r w' => r = .returned (.bool (apartB e e')) ∧ Below W.heap.size W w') := fun k d d' h1 h2 => by
    obtain ⟨y, hy, r1⟩ := forall2_get hre k d h1
    obtain ⟨y', hy', r2⟩ := forall2_get hre (k + 1) d' h2
    refine ⟨y, y', hy, hy', fun W hW => ?_⟩
    rw [opV_of r1, opV_of r2]
    have h3 := (hF y (List.mem_of_getElem? hy)).n
    have h4 := (hF y' (List.mem_of_getElem? hy')).n
    exact refApart_any y y' _ _ W (r1.2.2.2.2.below hW).row (r2.2.2.2.2.below hW).row (by omega) (by omega)
  have HZ : Hid (∀ (k : Nat) d, D0[k]? = some d → ∃ e, E[k]? = some e ∧ d.1 = e.k ∧ d.2.2.2.2.2.1 = e.A.length) := fun k d h1 => by
    obtain ⟨y, hy, r1⟩ := forall2_get hre k d h1
    obtain ⟨pp, cc, hvv, _⟩ := r1.2.2.2.2.row.val
    simp only [slV, Value.slice.injEq] at hvv
    exact ⟨y, hy, r1.1, hvv.2.1⟩
  have HX : Hid ((lensL E).2.2 = e9) := by show _ = _; rw [hx9]
  clear hc hn hDE hre hnz hF hS hx9
  cases e9 with
  | succ x =>
    have hcan : Hid (canonB E = false) := by
      show canonB E = false
      unfold canonB
      rw [decide_eq_false (fun h => by have := HX.out; omega)]; rfl
    obtain ⟨z, hz⟩ : ∃ z : Int, ((x + 1 : Nat) : Int) = z := ⟨_, rfl⟩
    have hz0 : (z != 0) = true := by rw [← hz, bne_iff_ne]; omega
    rw [hz] at c1
    clear HC HN HK HZ HX hz
    go_enter Tryz.func21, Tryz.ntmps21
    go_wp2_with fail
    refine c1.mono ?_; rintro r w2 ⟨rfl, hb2⟩
    clear c1
    go_wp2
    go_ret
    exact ⟨by rw [hcan.out]; rfl, hb2⟩
  | zero =>
    have hz0 : (((0 : Nat) : Int) != 0) = false := by decide
    go_enter Tryz.func21, Tryz.ntmps21
    go_wp2_with fail
    refine c1.mono ?_; rintro r w2 ⟨rfl, hb2⟩
    clear c1
    go_wp2
    go_loopw [6] (fun i wr => ∃ (k : Nat), (k ≤ n ∨ k = 1) ∧ 1 ≤ k ∧ i = .int .i64 k ∧ Hid (∀ j x y, j + 1 < k → E[j]? = some x → E[j + 1]? = some y → apartB x y = true) ∧ Below w.heap.size w wr) (fun i _ => n + 1 - (RowKit.intOf i).toNat)
    case atStart => exact ⟨1, Or.inr rfl, Nat.le_refl _, rfl, fun j x y h => by omega, hb2⟩
    case round =>
      clear hb2
      obtain ⟨k, hm, h1k, rfl, HCh, hbw⟩ := hrel
      by_cases hlt : k < n
      · have hltI : (k : Int) < n := by omega
        obtain ⟨m, hmk⟩ : ∃ m, k = m + 1 := ⟨k - 1, by omega⟩
        have HM : Hid (k = m + 1) := hmk
        obtain ⟨d, hd⟩ : ∃ q, D0[m]? = some q := ⟨_, List.getElem?_eq_getElem (by rw [HN.out.1]; omega)⟩
        obtain ⟨d', hd'⟩ : ∃ q, D0[k]? = some q := ⟨_, List.getElem?_eq_getElem (by rw [HN.out.1]; omega)⟩
        obtain ⟨e, e', he, he', cc⟩ := HK.out m d d' hd (by rw [← hmk]; exact hd')
        obtain ⟨b, off, rfl, hin⟩ := HC.out m d hd
        obtain ⟨b', off', hbo, hin'⟩ := HC.out k d' hd'
        simp only [Option.some.injEq, Addr.mk.injEq, and_true] at hbo
        obtain ⟨rfl, rfl⟩ := hbo
        obtain ⟨c0, c1, c2, c3, c4, c5, c6⟩ := hin.below hbw
        obtain ⟨d0, d1, d2, d3, d4, d5, d6⟩ := hin'.below hbw
        have HEE : Hid (E[m]? = some e ∧ E[m + 1]? = some e') := ⟨he, he'⟩
        clear hin hin' hd hd' he he'
        obtain ⟨f, t, ⟨x, z, u⟩, cc1, p, j, c⟩ := d
        obtain ⟨f', t', ⟨x', z', u'⟩, cc1', p', j', c'⟩ := d'
        simp only [slV] at c0 c1 c2 c3 c4 c5 c6 d0 d1 d2 d3 d4 d5 d6
        simp only [ovV, ovC, slV] at cc
        have HU : Hid (∀ w', Below wr.drew.heap.size wr.drew w' → (w'.cell? ⟨b, off + m * 7, none⟩ = some (.int .i64 f) ∧ w'.cell? ⟨b, off + m * 7 + 1, none⟩ = some (.string t) ∧ w'.cell? ⟨b, off + m * 7 + 2, none⟩ = some (.int .i64 x) ∧ w'.cell? ⟨b, off + m * 7 + 3, none⟩ = some (.int .i64 z) ∧ w'.cell? ⟨b, off + m * 7 + 4, none⟩ = some (.string u) ∧ w'.cell? ⟨b, off + m * 7 + 5, none⟩ = some (.int .i64 cc1) ∧ w'.cell? ⟨b, off + m * 7 + 6, none⟩ = some (.slice p j c) ∧ w'.cell? ⟨b, off + k * 7, none⟩ = some (.int .i64 f') ∧ w'.cell? ⟨b, off + k * 7 + 1, none⟩ = some (.string t') ∧ w'.cell? ⟨b, off + k * 7 + 2, none⟩ = some (.int .i64 x') ∧ w'.cell? ⟨b, off + k * 7 + 3, none⟩ = some (.int .i64 z') ∧ w'.cell? ⟨b, off + k * 7 + 4, none⟩ = some (.string u') ∧ w'.cell? ⟨b, off + k * 7 + 5, none⟩ = some (.int .i64 cc1') ∧ w'.cell? ⟨b, off + k * 7 + 6, none⟩ = some (.slice p' j' c'))) := fun w' hb => ⟨(hb.cell (lt_of_cell (w := wr.drew) c0)).trans c0, (hb.cell (lt_of_cell (w := wr.drew) c1)).trans c1, (hb.cell (lt_of_cell (w := wr.drew) c2)).trans c2, (hb.cell (lt_of_cell (w := wr.drew) c3)).trans c3, (hb.cell (lt_of_cell (w := wr.drew) c4)).trans c4, (hb.cell (lt_of_cell (w := wr.drew) c5)).trans c5, (hb.cell (lt_of_cell (w := wr.drew) c6)).trans c6, (hb.cell (lt_of_cell (w := wr.drew) d0)).trans d0, (hb.cell (lt_of_cell (w := wr.drew) d1)).trans d1, (hb.cell (lt_of_cell (w := wr.drew) d2)).trans d2, (hb.cell (lt_of_cell (w := wr.drew) d3)).trans d3, (hb.cell (lt_of_cell (w := wr.drew) d4)).trans d4, (hb.cell (lt_of_cell (w := wr.drew) d5)).trans d5, (hb.cell (lt_of_cell (w := wr.drew) d6)).trans d6⟩
        have hz0 : w.heap.size ≤ wr.drew.heap.size := hbw.size
        obtain ⟨q, hq⟩ : ∃ q, apartB e e' = q := ⟨_, rfl⟩
        rw [hq] at cc
        have HQ : Hid (apartB e e' = q) := hq
        have hk0 : (0 : Int) ≤ (k : Int) - 1 := by omega
        have hk1 : (k : Int) - 1 < (n : Int) := by omega
        have hk2 : ((k : Int) - 1).toNat = m := by omega
        have hk3 : IntKind.i64.wrap ((k : Int) - 1) = (k : Int) - 1 := by rw [IntKind.wrap_i64]; omega
        have hk4 : k ≤ 1048576 := by omega
        have hk5 : (1 : Int) ≤ (k : Int) := by omega
        have hk6 : k - 1 = m := by omega
        have hk7 : (0 : Int) ≤ (k : Int) := by omega
        clear hq hm hmk
        cases q with
        | true =>
          have HCh2 : Hid (∀ j x y, j + 1 < k + 1 → E[j]? = some x → E[j + 1]? = some y → apartB x y = true) := fun j x y hj hx hy => by
            by_cases hjm : j = m
            · subst hjm
              obtain rfl := Option.some.inj (hx.symm.trans HEE.out.1)
              obtain rfl := Option.some.inj (hy.symm.trans HEE.out.2)
              exact HQ.out
            · exact HCh.out j x y (by have := HM.out; omega) hx hy
          go_wp2_with fail
          go_region_held3 (fun w' => (w'.cell? ⟨b, off + m * 7, none⟩ = some (.int .i64 f) ∧ w'.cell? ⟨b, off + m * 7 + 1, none⟩ = some (.string t) ∧ w'.cell? ⟨b, off + m * 7 + 2, none⟩ = some (.int .i64 x) ∧ w'.cell? ⟨b, off + m * 7 + 3, none⟩ = some (.int .i64 z) ∧ w'.cell? ⟨b, off + m * 7 + 4, none⟩ = some (.string u) ∧ w'.cell? ⟨b, off + m * 7 + 5, none⟩ = some (.int .i64 cc1) ∧ w'.cell? ⟨b, off + m * 7 + 6, none⟩ = some (.slice p j c) ∧ w'.cell? ⟨b, off + k * 7, none⟩ = some (.int .i64 f') ∧ w'.cell? ⟨b, off + k * 7 + 1, none⟩ = some (.string t') ∧ w'.cell? ⟨b, off + k * 7 + 2, none⟩ = some (.int .i64 x') ∧ w'.cell? ⟨b, off + k * 7 + 3, none⟩ = some (.int .i64 z') ∧ w'.cell? ⟨b, off + k * 7 + 4, none⟩ = some (.string u') ∧ w'.cell? ⟨b, off + k * 7 + 5, none⟩ = some (.int .i64 cc1') ∧ w'.cell? ⟨b, off + k * 7 + 6, none⟩ = some (.slice p' j' c')) ∧ Below w.heap.size w w')
            (exact ⟨by first | (with_reducible assumption) | (simp [*]; done), by first | (with_reducible assumption) | exact hbw.drew⟩)
            (first | (go_at_call 37; refine (cc _ ?_).mono ?_; (· first | assumption | exact hbw.drew | (apply And.right; assumption)); rintro r w3 ⟨rfl, b3⟩; have b4 : Below w.heap.size w w3 := (hbw.drew).trans (b3.mono hz0); have mm := HU.out _ b3))
          clear cc mm b3
          go_wp2
          go_roundw
          case rel => exact ⟨k + 1, by omega, by omega, by go_num, HCh2, b4⟩
          case measure => simp [RowKit.intOf]; omega
        | false =>
          have hcan : Hid (canonB E = false) := by
            show canonB E = false
            cases h : chainB E with
            | true => have := chain_iff.1 h m e e' HEE.out.1 HEE.out.2; rw [HQ.out] at this; cases this
            | false => unfold canonB; rw [h]; simp
          go_wp2_with fail
          go_region_held3 (fun w' => (w'.cell? ⟨b, off + m * 7, none⟩ = some (.int .i64 f) ∧ w'.cell? ⟨b, off + m * 7 + 1, none⟩ = some (.string t) ∧ w'.cell? ⟨b, off + m * 7 + 2, none⟩ = some (.int .i64 x) ∧ w'.cell? ⟨b, off + m * 7 + 3, none⟩ = some (.int .i64 z) ∧ w'.cell? ⟨b, off + m * 7 + 4, none⟩ = some (.string u) ∧ w'.cell? ⟨b, off + m * 7 + 5, none⟩ = some (.int .i64 cc1) ∧ w'.cell? ⟨b, off + m * 7 + 6, none⟩ = some (.slice p j c) ∧ w'.cell? ⟨b, off + k * 7, none⟩ = some (.int .i64 f') ∧ w'.cell? ⟨b, off + k * 7 + 1, none⟩ = some (.string t') ∧ w'.cell? ⟨b, off + k * 7 + 2, none⟩ = some (.int .i64 x') ∧ w'.cell? ⟨b, off + k * 7 + 3, none⟩ = some (.int .i64 z') ∧ w'.cell? ⟨b, off + k * 7 + 4, none⟩ = some (.string u') ∧ w'.cell? ⟨b, off + k * 7 + 5, none⟩ = some (.int .i64 cc1') ∧ w'.cell? ⟨b, off + k * 7 + 6, none⟩ = some (.slice p' j' c')) ∧ Below w.heap.size w w')
            (exact ⟨by first | (with_reducible assumption) | (simp [*]; done), by first | (with_reducible assumption) | exact hbw.drew⟩)
            (first | (go_at_call 37; refine (cc _ ?_).mono ?_; (· first | assumption | exact hbw.drew | (apply And.right; assumption)); rintro r w3 ⟨rfl, b3⟩; have b4 : Below w.heap.size w w3 := (hbw.drew).trans (b3.mono hz0); have mm := HU.out _ b3))
          clear cc mm b3
          go_wp2
          go_ret
          exact ⟨by rw [hcan.out]; rfl, b4⟩
      · have hltI : ¬ (k : Int) < n := by omega
        have HC1 : Hid (chainB E = true) := chain_iff.2 fun j x y hx hy => HCh.out j x y (by
          have := (List.getElem?_eq_some_iff.1 hy).1; rw [HN.out.2] at this; omega) hx hy
        clear HCh
        cases n with
        | zero =>
          have hcan : Hid (canonB E = true) := by
            show canonB E = true
            have : E = [] := List.eq_nil_of_length_eq_zero HN.out.2
            unfold canonB
            rw [HC1.out, decide_eq_true HX.out, this]; rfl
          go_wp2
          go_ret
          exact ⟨by rw [hcan.out]; rfl, hbw⟩
        | succ l =>
          obtain ⟨d, hd⟩ : ∃ q, D0[l]? = some q := ⟨_, List.getElem?_eq_getElem (by rw [HN.out.1]; omega)⟩
          obtain ⟨e, he, hdk, hdl⟩ := HZ.out l d hd
          obtain ⟨b, off, rfl, hin⟩ := HC.out l d hd
          obtain ⟨c0, c1, c2, c3, c4, c5, c6⟩ := hin.below hbw
          have hcan : Hid (canonB E = !plainR e) := by
            show canonB E = _
            unfold canonB lastP
            rw [HC1.out, decide_eq_true HX.out, List.getLast?_eq_getElem?, HN.out.2]
            simp only [Nat.add_sub_cancel, he]
            rfl
          obtain ⟨f, t, ⟨x, z, u⟩, cc1, p, j, c⟩ := d
          simp only [slV] at c0 c1 c2 c3 c4 c5 c6
          simp only at hdk hdl
          have hpl : Hid (plainR e = (f == 3 && j == 0)) := by
            show plainR e = _
            unfold plainR
            rw [hdk, hdl]
            cases e.A <;> simp
          have hl0 : (((l : Int) + 1) == 0) = false := by simp; omega
          have hl1 : ((l : Int) + 1 - 1) = (l : Int) := by omega
          clear he hin hd hdk hdl hm hlt
          by_cases hf : f = 3
          · subst hf
            cases j with
            | zero =>
              go_wp2
              go_ret
              exact ⟨by rw [hcan.out, hpl.out]; rfl, hbw⟩
            | succ j =>
              have hj0 : decide ((0 : Int) < ((j + 1 : Nat) : Int)) = true := decide_eq_true (by omega)
              have hj2 : decide (0 < j + 1) = true := decide_eq_true (by omega)
              go_wp2
              go_ret
              exact ⟨by rw [hcan.out, hpl.out]; rfl, hbw⟩
          · have hf0 : (f != 3) = true := by simpa using hf
            have hf1 : (f == 3) = false := by simpa using hf
            clear hf
            go_wp2
            go_ret
            exact ⟨by rw [hcan.out, hpl.out, hf1]; rfl, hbw⟩
end Go.Proofs.YtgimcloadjjefabGreatDoor

/- What vellumref04.copied and vellumref04.Join answer. -/
namespace Go.Proofs.YtgimcloadjjefabGreatDoor
open Go Go.RowKit Go.Lib
set_option linter.unusedVariables false
end Go.Proofs.YtgimcloadjjefabGreatDoor

/- What vellumref04.Length, Cells and Newlines answer of inserts. -/
namespace Go.Proofs.YtgimcloadjjefabGreatDoor
open Go Go.RowKit Go.Lib
set_option linter.unusedVariables false

theorem ub10 (z : Int) (h : 128 ≤ z) (h1 : z < 256) : ¬ z.toNat.toUInt8 = 10 := fun e => by
  have := congrArg UInt8.toNat e
  rw [u8_nat z (by omega) h1] at this
  simp at this
  omega
theorem count_enc {r : Nat} (h : scal r) : (enc r).count 10 = if r = 10 then 1 else 0 := by
  have h' := h
  unfold scal at h'
  by_cases h1 : r < 128
  · rw [enc_one h1]
    by_cases h0 : r = 10
    · subst h0; rfl
    · rw [if_neg h0, List.count_eq_zero]
      intro hm
      have e := congrArg UInt8.toNat (List.mem_singleton.1 hm)
      rw [u8_nat _ (by omega) (by omega)] at e
      simp at e
      omega
  · rw [if_neg (by omega), List.count_eq_zero]
    intro hm
    by_cases h2 : r < 2048
    · rw [enc_two (by omega) h2] at hm
      simp only [List.mem_cons, List.not_mem_nil, or_false] at hm
      rcases hm with e | e <;> exact ub10 _ (by omega) (by omega) e.symm
    by_cases h3 : r < 65536
    · rw [enc_three (by omega) h3 h] at hm
      simp only [List.mem_cons, List.not_mem_nil, or_false] at hm
      rcases hm with e | e | e <;> exact ub10 _ (by omega) (by omega) e.symm
    · rw [enc_four (by omega) (by omega)] at hm
      simp only [List.mem_cons, List.not_mem_nil, or_false] at hm
      rcases hm with e | e | e | e <;> exact ub10 _ (by omega) (by omega) e.symm
theorem count_encs : ∀ (rs : List Nat), (∀ r ∈ rs, scal r) → (encs rs).count 10 = rs.countP (fun r => ((r : Nat) : Int) == 10)
  | [], _ => rfl
  | r :: rs, h => by
    rw [encs, List.count_append, count_enc (h r (by simp)), count_encs rs (fun x hx => h x (by simp [hx])), List.countP_cons]
    by_cases h0 : r = 10
    · subst h0; simp; omega
    · have : (((r : Nat) : Int) == 10) = false := by simp; omega
      rw [if_neg h0, this]
      simp
/-- How many cells of a list are newlines. -/
def newlC (L : List C5) : Nat := L.countP fun e => e.1 == 10
theorem newlC_of {o : Op5} (h : Ins o) : newlC (cellsOf o) = newlO o := by
  unfold newlC cellsOf newlO
  split
  · obtain ⟨h1, h2, _⟩ := valid_text o.t h.utf
    unfold mkC countByte
    rw [List.countP_map]
    conv => rhs; rw [h2]
    rw [count_encs _ h1]
    rfl
  · rfl
theorem newlC_le (L : List C5) : newlC L ≤ L.length := List.countP_le_length

/-- All blocks of numbers are as they were. -/
def Keep32 (w w' : World) : Prop := ∀ (k : Nat) (cur : Array Value), w.heap[k]? = some (.cells cur 21 (0, 0)) → w'.heap[k]? = w.heap[k]?
theorem keep32_below {w w' : World} (hb : Below w.heap.size w w') : Keep32 w w' := fun k cur hk => hb.block k (Array.getElem?_eq_some_iff.1 hk).1
theorem keep32_own {w w' : World} {B : Nat} {v : Value} {zs : List Int} (h : Own32 B w v zs) (hk : Keep32 w w') : Own32 B w' v zs := by
  obtain ⟨hl, h⟩ := h
  refine ⟨hl, ?_⟩
  rcases h with h | ⟨g, cap, cur, h1, h2, h3, h4⟩
  · exact Or.inl h
  · exact Or.inr ⟨g, cap, cur, h1, h2, (hk g cur h3).trans h3, h4⟩
end Go.Proofs.YtgimcloadjjefabGreatDoor

/- The document's deltas: Same, SameOp, Insert, Len. -/
namespace Go.Proofs.YtgimcloadjjefabGreatDoor
open Go Go.RowKit Go.Lib
set_option linter.unusedVariables false
end Go.Proofs.YtgimcloadjjefabGreatDoor

/- The document's deltas: Len. -/
namespace Go.Proofs.YtgimcloadjjefabGreatDoor
open Go Go.RowKit Go.Lib
set_option linter.unusedVariables false
end Go.Proofs.YtgimcloadjjefabGreatDoor

/- vellumhand.Make, Is; vellumlaw06's gone, text, large, lives. -/
namespace Go.Proofs.YtgimcloadjjefabGreatDoor
open Go Go.RowKit Go.Lib
set_option linter.unusedVariables false
/-- Lists that the calls read. -/
structure OkR (E : List Op5) : Prop where
  n : ∀ o ∈ E, o.A.length ≤ 1048576
  len : E.length ≤ 2097152
/-- A text to insert. -/
def txtO (t : ByteArray) : Op5 := ⟨1, t, z0, 0, []⟩
/-- How large a list is. -/
def larN (E : List Op5) : Int := (E.map fun o => (o.t.size : Int) + 10 * o.A.length + 10).sum
theorem larN_append (E F : List Op5) : larN (E ++ F) = larN E + larN F := by unfold larN; rw [List.map_append, List.sum_append]
theorem larN_one (o : Op5) : larN [o] = (o.t.size : Int) + 10 * o.A.length + 10 := by simp [larN]
theorem larN_le {E : List Op5} (h : FitL E) : 0 ≤ larN E ∧ larN E ≤ 20000000 * E.length := by
  induction E with
  | nil => simp [larN]
  | cons o r ih =>
    obtain ⟨h1, h2⟩ := ih (fun x hx => h x (List.mem_cons_of_mem _ hx))
    have ho := h o (List.mem_cons_self ..)
    have e : larN (o :: r) = (o.t.size : Int) + 10 * o.A.length + 10 + larN r := by simp [larN]
    have a1 := ho.t
    have a2 := ho.n
    rw [e, List.length_cons]
    omega
theorem larN_txt (E : List Op5) : (txtS E : Int) + 10 * E.length ≤ larN E := by
  induction E with
  | nil => simp [larN, txtS]
  | cons o r ih =>
    have e : larN (o :: r) = (o.t.size : Int) + 10 * o.A.length + 10 + larN r := by simp [larN]
    have e2 : txtS (o :: r) = o.t.size + txtS r := by simp [txtS]
    rw [e, e2, List.length_cons]
    omega
theorem larN_mem {E : List Op5} {o : Op5} (h : o ∈ E) : (o.t.size : Int) + 10 * o.A.length + 10 ≤ larN E := by
  induction E with
  | nil => cases h
  | cons x r ih =>
    have e : larN (x :: r) = (x.t.size : Int) + 10 * x.A.length + 10 + larN r := by simp [larN]
    have := larN_txt r
    rcases List.mem_cons.1 h with rfl | h
    · omega
    · have := ih h; omega
end Go.Proofs.YtgimcloadjjefabGreatDoor

/- vellumlaw06.lives answers true. -/
namespace Go.Proofs.YtgimcloadjjefabGreatDoor
open Go Go.RowKit Go.Lib
set_option linter.unusedVariables false

/-- A row of operations laid at once. -/
theorem row_blk {w : World} {b : Nat} {D : List OV} (h : w.heap[b]? = some (.cells (cellsO D).toArray 46 (0, 0))) : RowO w (.slice (some ⟨b, 0, none⟩) D.length D.length) D := by
  refine ⟨some ⟨b, 0, none⟩, D.length, rfl, Nat.le_refl _, fun h => (by cases h), fun j d hd => ⟨b, 0, rfl, ?_⟩⟩
  obtain ⟨k0, k1, k2, k3, k4, k5, k6⟩ := cellsO_get D j d hd
  have e : ∀ i u, (cellsO D)[i]? = some u → w.cell? ⟨b, i, none⟩ = some u := fun i u hu => by
    rw [cell_of_heap h]
    rw [List.getElem?_toArray]
    exact hu
  rw [Nat.zero_add]
  exact ⟨e _ _ k0, e _ _ k1, e _ _ k2, e _ _ k3, e _ _ k4, e _ _ k5, e _ _ k6⟩
/-- An operation without attributes, as it lies in memory. -/
abbrev ovN (o : Op5) : OV := (o.k, o.t, o.v, o.c, (none, 0, 0))
theorem re_blk {w : World} {b : Nat} {E : List Op5} (h : w.heap[b]? = some (.cells (cellsO (E.map ovN)).toArray 46 (0, 0))) (hA : ∀ o ∈ E, o.A = []) : ReO w (.slice (some ⟨b, 0, none⟩) E.length E.length) E := by
  refine ⟨E.map ovN, ?_, ?_⟩
  · have := row_blk h
    rw [List.length_map] at this
    exact this
  · clear h
    induction E with
    | nil => exact .nil
    | cons o r ih =>
      refine .cons ⟨rfl, rfl, rfl, rfl, ?_⟩ (ih fun x hx => hA x (List.mem_cons_of_mem _ hx))
      rw [hA o (List.mem_cons_self ..)]
      exact RN.nil w
def live0 : List Op5 := [delO 1, txtO ⟨#[97]⟩, delO 2, txtO ⟨#[98]⟩, ⟨3, ⟨#[]⟩, z0, 3, []⟩]
def live1 : List Op5 := [txtO ⟨#[97, 98]⟩, delO 3]
theorem live0_ok : ofE 0 0 live0 = (0, 0) := by kernel_rfl
theorem live0_canon : canonL live0 = live1 := by kernel_rfl
theorem fit_nil {o : Op5} (h1 : o.t.size ≤ 8388608) (h2 : o.v.2.2.size ≤ 1048576) (h3 : o.A = []) : Fit o := ⟨h1, h2, fun q hq => (by rw [h3] at hq; cases hq), by rw [h3]; simp⟩
theorem live0_nil : ∀ o ∈ live0, o.A = [] := by
  intro o ho
  simp only [live0, List.mem_cons, List.not_mem_nil, or_false] at ho
  rcases ho with rfl | rfl | rfl | rfl | rfl <;> rfl
theorem live1_nil : ∀ o ∈ live1, o.A = [] := by
  intro o ho
  simp only [live1, List.mem_cons, List.not_mem_nil, or_false] at ho
  rcases ho with rfl | rfl <;> rfl
theorem live0_fit : FitL live0 := by
  intro o ho
  refine fit_nil ?_ ?_ (live0_nil o ho)
  all_goals
    simp only [live0, List.mem_cons, List.not_mem_nil, or_false] at ho
    rcases ho with rfl | rfl | rfl | rfl | rfl <;> decide
theorem live1_okR : OkR live1 := ⟨fun o ho => by rw [live1_nil o ho]; simp, by decide⟩
theorem live1_good : ∀ o ∈ live1, opE o = 0 := by
  intro o ho
  simp only [live1, List.mem_cons, List.not_mem_nil, or_false] at ho
  rcases ho with rfl | rfl <;> kernel_rfl
end Go.Proofs.YtgimcloadjjefabGreatDoor

/- vellumlaw08: of, is, fixed. -/
namespace Go.Proofs.YtgimcloadjjefabGreatDoor
open Go Go.RowKit Go.Lib
set_option linter.unusedVariables false

theorem Hid.mk8 {P : Prop} (h : P) : Hid P := h
theorem canB_can {E : List Op5} (h : canonB E = true) : CanO E ∧ Fits8 E ∧ ∀ o ∈ E, opE o = 0 := by
  obtain ⟨h1, h2, h3, h4, h5⟩ := canonB_iff.1 h
  exact ⟨⟨h1, h4, h5⟩, ⟨h2, h3⟩, wel_good h1 h2⟩
theorem can_canB {E : List Op5} (h : CanO E) (hf : Fits8 E) : canonB E = true := canonB_iff.2 ⟨h.wel, hf.1, hf.2, h.chain, h.last⟩
set_option maxHeartbeats 2000000 in
set_option maxRecDepth 100000 in
theorem of8_any {I : List Nat} {a : Nat → Addr} (v : Value) (A : List Op5) (w : World) (hI : ∀ i ∈ IxO, i ∈ I) (hS : Std I a w) (hv : ReO w v A) (hF : FitL A) (hl : A.length ≤ 1048576) (ht : txtS A ≤ 4194304) :
    Calls Tryz.prog 8 #[v] w fun r w' => ∃ dv, r = .returned dv ∧ (canonB A = true → (∃ q, dv = .pointer (some ⟨q, 0, none⟩)) ∧ DlE w' w.heap.size w.heap.size dv A) ∧ (canonB A = false → dv = .pointer none) ∧ Below w.heap.size w w' := by
  have c1 := refCanon_any v A w hS hv hF hl
  have cB : Hid (canonB A = true → ∀ W, Below w.heap.size w W → Calls Tryz.prog 22 #[v] W fun r w' => ∃ q, r = .returned (.tuple #[.pointer (some ⟨q, 0, none⟩), .int .i64 0, .nilIface]) ∧ DlE w' w.heap.size w.heap.size (.pointer (some ⟨q, 0, none⟩)) A ∧ Below w.heap.size w w') := fun hc W hW => by
    obtain ⟨k1, k2, k3⟩ := canB_can hc
    have e0 := ofE_ok A 0 0 k3 (by have := k2.1; omega) (by have := k2.2; omega)
    refine (buildOf_any v A W hI (hS.below hW) (hv.below hW) hF hl (by omega)).mono ?_
    rintro r w' ⟨dv, h1, h2, -, h4⟩
    rw [e0] at h1 h2
    have hd := h2 rfl
    rw [k1.self] at hd
    obtain ⟨q, pv, PL, rfl, _⟩ := id hd
    exact ⟨q, h1, ⟨delV_low hd hW.size hW.size, k3, fun o ho => (hF o ho).fitA, Nat.le_trans hl (by decide), ht, k2⟩, hW.trans (h4.mono hW.size)⟩
  obtain ⟨D0, ⟨p, cap, rfl, _⟩, _⟩ := id hv
  obtain ⟨b, hb⟩ : ∃ x, canonB A = x := ⟨_, rfl⟩
  rw [hb] at c1 cB ⊢
  clear hS hv hF hl ht hb
  go_enter Tryz.func8, Tryz.ntmps8
  go_wp2_with fail
  refine c1.mono ?_; rintro r w2 ⟨rfl, b2⟩
  cases b with
  | false =>
    clear c1 cB
    go_wp2
    go_ret
    exact ⟨_, rfl, rfl, b2⟩
  | true =>
    have c2 := cB.out rfl w2 b2
    clear c1 cB
    go_wp2_with fail
    refine c2.mono ?_; rintro r w3 ⟨q, rfl, hd, b3⟩
    have HD := Hid.mk8 hd
    clear c2 hd b2
    go_wp2
    go_ret
    exact ⟨_, rfl, ⟨⟨q, rfl⟩, HD.out⟩, b3⟩
theorem isNo8_any (v : Value) (w : World) : Calls Tryz.prog 16 #[.pointer none, v] w fun r w' => r = .returned (.bool false) ∧ Below w.heap.size w w' := by
  go_enter Tryz.func16, Tryz.ntmps16
  go_wp2
  go_ret
  exact ⟨rfl, Below.refl _ _⟩
set_option maxHeartbeats 2000000 in
set_option maxRecDepth 100000 in
theorem is8_any {B1 B2 : Nat} (d v : Value) (E F : List Op5) (w : World) (h : DlE w B1 B2 d E) (hv : ReO w v F) (hl : F.length ≤ 2097152) (hA : ∀ e ∈ F, e.A.length ≤ 1048576) :
    Calls Tryz.prog 16 #[d, v] w fun r w' => r = .returned (.bool (decide (E = F))) ∧ Below w.heap.size w w' := by
  have c1 := ops_any d E w h.d h.g h.n (Nat.le_trans h.len (by decide))
  have c2 : Hid (∀ W v', Below w.heap.size w W → ReO W v' E → Calls Tryz.prog 31 #[v', v] W fun r w' => r = .returned (.bool (decide (E = F))) ∧ Below W.heap.size W w') := fun W v' hW h' => sameQ_any v' v E F W h' (hv.below hW) (Nat.le_trans h.len (by decide)) hl (fun e he => (h.fit e he).n) hA
  obtain ⟨q, pv, PL, rfl, _⟩ := h.d
  obtain ⟨D0, ⟨p, cap, rfl, _⟩, _⟩ := id hv
  obtain ⟨bb, hbb⟩ : ∃ x, decide (E = F) = x := ⟨_, rfl⟩
  rw [hbb] at c2 ⊢
  clear h hv hl hA hbb
  go_enter Tryz.func16, Tryz.ntmps16
  go_wp2_with fail
  refine c1.mono ?_; rintro r w2 ⟨v', rfl, hco, hb2⟩
  have c4 := c2.out w2 v' hb2 hco.re
  obtain ⟨D1, ⟨p1, c1', e1⟩, _⟩ : ∃ D1, (∃ p c, v' = .slice p D1 c) ∧ True := by
    obtain ⟨D', ⟨p', cap', e', _⟩, _⟩ := hco.re
    exact ⟨_, ⟨p', cap', e'⟩, trivial⟩
  subst e1
  clear c1 c2 hco
  go_wp2_with fail
  refine c4.mono ?_; rintro r w3 ⟨rfl, hb3⟩
  have b3 := hb2.trans (hb3.mono hb2.size)
  clear c4 hb2 hb3
  go_wp2
  go_ret
  exact ⟨rfl, b3⟩
def fixA : List Op5 := [pl7 1, delO 2]
def fixB : List Op5 := [txtO ⟨#[120]⟩]
def fixC : List Op5 := [pl7 1, txtO ⟨#[120]⟩, delO 2]
def fixD : List Op5 := [pl7 4, delO 2]
theorem fix_nil : (∀ o ∈ fixA, o.A = []) ∧ (∀ o ∈ fixB, o.A = []) ∧ (∀ o ∈ fixC, o.A = []) ∧ ∀ o ∈ fixD, o.A = [] := by
  refine ⟨fun o ho => ?_, fun o ho => ?_, fun o ho => ?_, fun o ho => ?_⟩
  · simp only [fixA, List.mem_cons, List.not_mem_nil, or_false] at ho
    rcases ho with rfl | rfl <;> rfl
  · simp only [fixB, List.mem_cons, List.not_mem_nil, or_false] at ho
    subst ho; rfl
  · simp only [fixC, List.mem_cons, List.not_mem_nil, or_false] at ho
    rcases ho with rfl | rfl | rfl <;> rfl
  · simp only [fixD, List.mem_cons, List.not_mem_nil, or_false] at ho
    rcases ho with rfl | rfl <;> rfl
theorem fix_fitA : FitL fixA := fun o ho => fit_nil (by
  simp only [fixA, List.mem_cons, List.not_mem_nil, or_false] at ho
  rcases ho with rfl | rfl <;> decide) (by
  simp only [fixA, List.mem_cons, List.not_mem_nil, or_false] at ho
  rcases ho with rfl | rfl <;> decide) (fix_nil.1 o ho)
theorem fix_fitB : FitL fixB := fun o ho => fit_nil (by
  simp only [fixB, List.mem_cons, List.not_mem_nil, or_false] at ho
  subst ho; decide) (by
  simp only [fixB, List.mem_cons, List.not_mem_nil, or_false] at ho
  subst ho; decide) (fix_nil.2.1 o ho)
theorem fix_fitC : FitL fixC := fun o ho => fit_nil (by
  simp only [fixC, List.mem_cons, List.not_mem_nil, or_false] at ho
  rcases ho with rfl | rfl | rfl <;> decide) (by
  simp only [fixC, List.mem_cons, List.not_mem_nil, or_false] at ho
  rcases ho with rfl | rfl | rfl <;> decide) (fix_nil.2.2.1 o ho)
theorem fix_fitD : FitL fixD := fun o ho => fit_nil (by
  simp only [fixD, List.mem_cons, List.not_mem_nil, or_false] at ho
  rcases ho with rfl | rfl <;> decide) (by
  simp only [fixD, List.mem_cons, List.not_mem_nil, or_false] at ho
  rcases ho with rfl | rfl <;> decide) (fix_nil.2.2.2 o ho)
theorem fix_canA : canonB fixA = true := by kernel_rfl
theorem fix_canB : canonB fixB = true := by kernel_rfl
theorem fix_cat : canonL (fixA ++ fixB) = fixC := by kernel_rfl
theorem fix_sh : shift8 fixA 3 = fixD := by
  have e : shift8 fixA 3 = canonL (pl7 3 :: fixA) := if_neg (by simp [fixA])
  exact e.trans (by kernel_rfl)
theorem fix_num : sumB fixA = 3 ∧ sumR fixA = 1 ∧ sumD8 fixA = 2 ∧ sumI8 fixB = 1 ∧ sumB fixB = 0 := by decide
theorem fix_fits : Fits8 (fixA ++ fixB) ∧ FitSh fixA 3 := by
  refine ⟨by unfold Fits8; decide, Or.inr (by decide)⟩
end Go.Proofs.YtgimcloadjjefabGreatDoor

/- vellumlaw08: fixed answers true. -/
namespace Go.Proofs.YtgimcloadjjefabGreatDoor
open Go Go.RowKit Go.Lib
set_option linter.unusedVariables false

/-- The errors that the laws ask for. -/
def IR8 : List Nat := 11 :: IxO
theorem ir8 {I : List Nat} (h : ∀ i ∈ IR8, i ∈ I) : (∀ i ∈ IxO, i ∈ I) ∧ 11 ∈ I := ⟨fun i hi => h i (List.mem_cons_of_mem _ hi), h 11 (List.mem_cons_self ..)⟩
/-- A delta of a fixed list. -/
theorem fixed_of {I : List Nat} {a : Nat → Addr} (E : List Op5) (n : Nat) (w : World) (b : Nat) (hI : ∀ i ∈ IxO, i ∈ I) (hS : Std I a w) (hn : E.length = n) (hA : ∀ o ∈ E, o.A = []) (hF : FitL E) (hl : E.length ≤ 1048576) (ht : txtS E ≤ 4194304) (hc : canonB E = true) (hb : w.heap[b]? = some (.cells (cellsO (E.map ovN)).toArray 46 (0, 0))) :
    Calls Tryz.prog 8 #[.slice (some ⟨b, 0, none⟩) n n] w fun r w' => ∃ q, r = .returned (.pointer (some ⟨q, 0, none⟩)) ∧ DlE w' w.heap.size w.heap.size (.pointer (some ⟨q, 0, none⟩)) E ∧ Below w.heap.size w w' := by
  subst hn
  refine (of8_any _ E w hI hS (re_blk hb hA) hF hl ht).mono ?_
  rintro r w' ⟨dv, rfl, h1, -, h3⟩
  obtain ⟨⟨q, rfl⟩, h2⟩ := h1 hc
  exact ⟨q, rfl, h2, h3⟩
set_option maxHeartbeats 4000000 in
set_option maxRecDepth 100000 in
theorem fixed8_any {I : List Nat} {a : Nat → Addr} (w : World) (hI : ∀ i ∈ IxO, i ∈ I) (h11 : 11 ∈ I) (hS : Std I a w) :
    Calls Tryz.prog 7 #[] w fun r w' => r = .returned (.bool true) ∧ Below w.heap.size w w' := by
  have hS' : Hid (∀ W, Below w.heap.size w W → Std I a W) := fun W h => hS.below h
  have b1 : Below w.heap.size w (w.alloc (.cells (cellsO (fixA.map ovN)).toArray 46)) := (Below.refl _ _).alloc (Nat.le_refl _) _
  have c1 := fixed_of fixA 2 _ w.heap.size hI (hS'.out _ b1) rfl fix_nil.1 fix_fitA (by decide) (by decide) fix_canA (heap_alloc_new w _)
  have cB := fun (W : World) (hW : Below w.heap.size w W) => fixed_of fixB 1 (W.alloc (.cells (cellsO (fixB.map ovN)).toArray 46)) W.heap.size hI (hS'.out _ (hW.alloc hW.size _)) rfl fix_nil.2.1 fix_fitB (by decide) (by decide) fix_canB (heap_alloc_new W _)
  have HC : Hid (∀ (W : World) (d1 d2 d3 d4 : Nat) (u v : Value), Below w.heap.size w W → DlE W d1 d2 u fixA → DlE W d3 d4 v fixB → Calls Tryz.prog 15 #[u, v] W fun r w' => ∃ q, r = .returned (.tuple #[.pointer (some ⟨q, 0, none⟩), .nilIface]) ∧ DlE w' W.heap.size W.heap.size (.pointer (some ⟨q, 0, none⟩)) fixC ∧ Below W.heap.size W w') := fun W d1 d2 d3 d4 u v hW hu hv => by
    refine (concat8_any u v fixA fixB W hI (hS'.out W hW) hu hv (by decide)).mono ?_
    rintro r w' ⟨dv, er, rfl, ⟨x1, -⟩, x3⟩
    obtain ⟨rfl, hd⟩ := x1 fix_fits.1
    rw [fix_cat] at hd
    obtain ⟨q, pv, PL, rfl, _⟩ := id hd
    exact ⟨q, rfl, ⟨hd, wel_good (by rw [← fix_cat]; exact (CanO.of (wel_app hu.wel hv.wel)).wel) (by decide), fun o ho => (fix_fitC o ho).fitA, by decide, by decide, by unfold Fits8; decide⟩, x3⟩
  have HD : Hid (∀ (W : World) (d1 d2 : Nat) (u : Value), Below w.heap.size w W → DlE W d1 d2 u fixA → Calls Tryz.prog 20 #[u, .int .i64 3] W fun r w' => ∃ q, r = .returned (.tuple #[.pointer (some ⟨q, 0, none⟩), .nilIface]) ∧ (∃ e1 e2, DlE w' e1 e2 (.pointer (some ⟨q, 0, none⟩)) fixD) ∧ Below W.heap.size W w') := fun W d1 d2 u hW hu => by
    refine (shift8_any u fixA 3 W hI h11 (hS'.out W hW) hu (by decide) (by decide)).mono ?_
    rintro r w' ⟨dv, er, rfl, ⟨-, x2⟩, x3⟩
    obtain ⟨rfl, e1, e2, hd⟩ := (x2 (by decide)).1 fix_fits.2
    rw [fix_sh] at hd
    obtain ⟨q, pv, PL, rfl, _⟩ := id hd
    exact ⟨q, rfl, ⟨e1, e2, hd, wel_good (by rw [← fix_sh]; exact (shift_units ⟨hu.wel, by kernel_rfl, by kernel_rfl⟩ (by decide) (by simp [fixA])).1.wel) (by decide), fun o ho => (fix_fitD o ho).fitA, by decide, by decide, by unfold Fits8; decide⟩, x3⟩
  have n1 := fix_num
  clear hS
  go_enter Tryz.func7, Tryz.ntmps7
  go_wp2_with fail
  refine c1.mono ?_; rintro r w2 ⟨qa, rfl, ha, b2⟩
  have hb2 := b1.trans (b2.mono b1.size)
  have HA2 := Hid.mk8 ha
  have c2 := cB w2 hb2
  clear c1 cB b1 b2 ha
  go_wp2_with fail
  refine c2.mono ?_; rintro r w3 ⟨qb, rfl, hb, b3⟩
  have ba : Below w2.heap.size w2 (w2.alloc (.cells (cellsO (fixB.map ovN)).toArray 46)) := (Below.refl _ _).alloc (Nat.le_refl _) _
  have b23 := ba.trans (b3.mono ba.size)
  have hb3 := hb2.trans (b23.mono hb2.size)
  have HA3 := Hid.mk8 (HA2.out.below b23)
  have HB3 := Hid.mk8 hb
  have c3 := base8_any _ _ w3 HA3.out
  rw [n1.1] at c3
  clear c2 hb2 b23 ba b3 hb HA2
  go_wp2_with fail
  refine c3.mono ?_; rintro r w4 ⟨rfl, b4⟩
  have hb4 := hb3.trans (b4.mono hb3.size)
  have HA4 := Hid.mk8 (HA3.out.below b4)
  have HB4 := Hid.mk8 (HB3.out.below b4)
  have c4 := result8_any _ _ w4 HA4.out
  rw [n1.2.1] at c4
  clear c3 hb3 b4 HA3 HB3
  go_wp2_with fail
  refine c4.mono ?_; rintro r w5 ⟨rfl, b5⟩
  have hb5 := hb4.trans (b5.mono hb4.size)
  have HA5 := Hid.mk8 (HA4.out.below b5)
  have HB5 := Hid.mk8 (HB4.out.below b5)
  have c5 := dl8_any _ _ w5 HA5.out
  rw [n1.2.2.1] at c5
  clear c4 hb4 b5 HA4 HB4
  go_wp2_with fail
  refine c5.mono ?_; rintro r w6 ⟨rfl, b6⟩
  have hb6 := hb5.trans (b6.mono hb5.size)
  have HA6 := Hid.mk8 (HA5.out.below b6)
  have HB6 := Hid.mk8 (HB5.out.below b6)
  have c6 := ins8_any _ _ w6 HB6.out
  rw [n1.2.2.2.1] at c6
  clear c5 hb5 b6 HA5 HB5
  go_wp2_with fail
  refine c6.mono ?_; rintro r w7 ⟨rfl, b7⟩
  have hb7 := hb6.trans (b7.mono hb6.size)
  have HA7 := Hid.mk8 (HA6.out.below b7)
  have HB7 := Hid.mk8 (HB6.out.below b7)
  have c7 := doc8_any _ _ w7 HB7.out
  rw [n1.2.2.2.2] at c7
  clear c6 hb6 b7 HA6 HB6
  go_wp2_with fail
  refine c7.mono ?_; rintro r w8 ⟨rfl, b8⟩
  have hb8 := hb7.trans (b8.mono hb7.size)
  have HA8 := Hid.mk8 (HA7.out.below b8)
  have HB8 := Hid.mk8 (HB7.out.below b8)
  have c8 := doc8_any _ _ w8 HA8.out
  rw [n1.1] at c8
  clear c7 hb7 b8 HA7 HB7
  go_wp2_with fail
  refine c8.mono ?_; rintro r w9 ⟨rfl, b9⟩
  have hb9 := hb8.trans (b9.mono hb8.size)
  have HA9 := Hid.mk8 (HA8.out.below b9)
  have HB9 := Hid.mk8 (HB8.out.below b9)
  have c9 := HC.out w9 _ _ _ _ _ _ hb9 HA9.out HB9.out
  clear c8 hb8 b9 HA8 HB8
  go_wp2_with fail
  refine c9.mono ?_; rintro r wA ⟨qc, rfl, hc, bA⟩
  have hbA := hb9.trans (bA.mono hb9.size)
  have HAA := Hid.mk8 (HA9.out.below bA)
  have HCA := Hid.mk8 hc
  have cA := HD.out wA _ _ _ hbA HAA.out
  clear c9 hb9 bA hc HA9 HB9 HC
  go_wp2_with fail
  refine cA.mono ?_; rintro r wB ⟨qd, rfl, ⟨e1, e2, hd⟩, bB⟩
  have hbB := hbA.trans (bB.mono hbA.size)
  have HDB := Hid.mk8 hd
  have HCB := Hid.mk8 (HCA.out.below bB)
  have bc : Below wB.heap.size wB (wB.alloc (.cells (cellsO (fixC.map ovN)).toArray 46)) := (Below.refl _ _).alloc (Nat.le_refl _) _
  have cI := is8_any _ (.slice (some ⟨wB.heap.size, 0, none⟩) 3 3) fixC fixC (wB.alloc (.cells (cellsO (fixC.map ovN)).toArray 46)) (HCB.out.below bc) (re_blk (heap_alloc_new wB _) fix_nil.2.2.1) (by decide) (fun e he => by rw [fix_nil.2.2.1 e he]; decide)
  rw [decide_eq_true rfl] at cI
  clear cA hbA bB hd HAA HCA HD
  go_wp2_with fail
  refine cI.mono ?_; rintro r wC ⟨rfl, bC⟩
  have hbC := (hbB.trans (bc.mono hbB.size)).trans (bC.mono (Nat.le_trans hbB.size bc.size))
  have HDC := Hid.mk8 ((HDB.out.below bc).below bC)
  have bd : Below wC.heap.size wC (wC.alloc (.cells (cellsO (fixD.map ovN)).toArray 46)) := (Below.refl _ _).alloc (Nat.le_refl _) _
  have cJ := is8_any _ (.slice (some ⟨wC.heap.size, 0, none⟩) 2 2) fixD fixD (wC.alloc (.cells (cellsO (fixD.map ovN)).toArray 46)) (HDC.out.below bd) (re_blk (heap_alloc_new wC _) fix_nil.2.2.2) (by decide) (fun e he => by rw [fix_nil.2.2.2 e he]; decide)
  rw [decide_eq_true rfl] at cJ
  clear cI hbB bC HDB HCB bc
  go_wp2_with fail
  refine cJ.mono ?_; rintro r wD ⟨rfl, bD⟩
  have hbD := (hbC.trans (bd.mono hbC.size)).trans (bD.mono (Nat.le_trans hbC.size bd.size))
  clear cJ hbC bD HDC bd
  go_wp2
  go_ret
  exact ⟨rfl, hbD⟩
end Go.Proofs.YtgimcloadjjefabGreatDoor

/- Canonical lists of operations in order are in order. -/
namespace Go.Proofs.YtgimcloadjjefabGreatDoor
open Go Go.RowKit Go.Lib
set_option linter.unusedVariables false

theorem trim_sub (P : List Op5) : (∀ x ∈ trimL P, x ∈ P) ∧ txtS (trimL P) ≤ txtS P ∧ (trimL P).length ≤ P.length := by
  rcases List.eq_nil_or_concat P with rfl | ⟨F, x, rfl⟩
  · exact ⟨fun x h => h, Nat.le_refl _, Nat.le_refl _⟩
  · rw [List.concat_eq_append]
    have e : trimL (F ++ [x]) = if plainR x then F else F ++ [x] := by
      unfold trimL
      rw [List.getLast?_concat, List.dropLast_concat]
    rw [e]
    split
    · exact ⟨fun y h => List.mem_append_left _ h, by rw [txtS_append]; omega, by simp⟩
    · exact ⟨fun y h => h, Nat.le_refl _, Nat.le_refl _⟩
/-- The canonical list of operations in order is in order, and no greater. -/
theorem canon_ok {E : List Op5} (h : OkE E) : OkE (canonL E) ∧ txtS (canonL E) ≤ txtS E ∧ (canonL E).length ≤ E.length := by
  have hz : BSz (bldR E) E.length (txtS E) := by
    have := bldR_sz E BSz.nil h.fit
    rw [Nat.zero_add, Nat.zero_add] at this
    exact this
  obtain ⟨c1, c2, c3, c4⟩ := canon_spec h.wel
  obtain ⟨s1, s2⟩ := canon_sums h.wel
  have key : (∀ x ∈ canonL E, FitA x) ∧ txtS (canonL E) ≤ txtS E ∧ (canonL E).length ≤ E.length := by
    rw [← finB_canon h.wel]
    obtain ⟨a, b, c⟩ := hz.set
    have a2 := hz.fit
    have b2 := hz.txt
    have c2 := hz.len
    unfold finB
    by_cases h0 : 0 < (bldR E).2
    · rw [if_pos h0]
      unfold setB at a b c
      rw [if_pos h0] at a b c
      exact ⟨a, b, c⟩
    · rw [if_neg h0]
      obtain ⟨t1, t2, t3⟩ := trim_sub (bldR E).1
      exact ⟨fun x hx => a2 x (t1 x hx), by omega, by omega⟩
  have hb := h.base
  have hr := h.res
  have ht := h.txt
  have hl := h.len
  exact ⟨⟨wel_good c1 (by omega), key.1, by omega, by omega, by omega, by omega⟩, key.2⟩
theorem OkE.okR {E : List Op5} (h : OkE E) (hl : E.length ≤ 2097152) : OkR E := ⟨fun o ho => (h.fit o ho).n, hl⟩
theorem OkE.fitL {E : List Op5} (h : OkE E) : FitL E := fitA_all h.fit h.txt
/-- A list that isn't large. -/
theorem small_of {E : List Op5} (h : decide (60000 < larN E) = false) : txtS E ≤ 60000 ∧ E.length ≤ 6000 ∧ ∀ o ∈ E, o.A.length ≤ 6000 := by
  have h1 := of_decide_eq_false h
  have h2 := larN_txt E
  exact ⟨by omega, by omega, fun o ho => by have := larN_mem ho; omega⟩
/-- What a loop over a list of the call's own and over a row of pieces reads. -/
theorem both_read {w : World} {B1 B2 : Nat} {v1 v2 : Value} {P : List Value} {C : List Op5} (h1 : CoO w B1 v1 C) (h2 : OwnI w B2 v2 P) (h3 : PieD w B2 P C) :
    ∃ p1 c1 p2 c2, v1 = .slice p1 C.length c1 ∧ v2 = .slice p2 C.length c2 ∧ ∀ m, m < C.length → ∃ (e : Op5) (d : OV) (b ga : Nat) (s : Value), C[m]? = some e ∧ p1 = some ⟨b, 0, none⟩ ∧ OpAt w b (0 + m * 7) d ∧ ovV d = opV e (slV d.2.2.2.2) ∧ d.1 = e.k ∧ OwnA w B1 (slV d.2.2.2.2) e.A ∧ p2 = some ⟨ga, 0, none⟩ ∧ w.cell? ⟨ga, m, none⟩ = some (pieceQ e s) ∧ OwnA w B2 s e.A := by
  obtain ⟨D, hD, hO⟩ := h1
  have hl1 := forall2_len hO
  have hl2 := forall2_len h3
  obtain ⟨p1, c1, e1⟩ := own_slice hD
  obtain ⟨p2, c2, e2⟩ := own_slice h2
  refine ⟨p1, c1, p2, c2, by rw [e1, hl1], by rw [e2, hl2], fun m hm => ?_⟩
  obtain ⟨ga, c, x, hv', hB, hx, hc⟩ := own_cell h2 m (by omega)
  obtain ⟨e, s, he, rfl, hs⟩ := oneI h3 hx
  rw [e2] at hv'
  simp only [Value.slice.injEq] at hv'
  have hd : D[m]? = some (D[m]'(by omega)) := List.getElem?_eq_getElem (by omega)
  obtain ⟨y, hy, r⟩ := forall2_get hO m _ hd
  obtain rfl : y = e := Option.some.inj (hy.symm.trans he)
  rcases hD.2 with ⟨_, h0⟩ | ⟨g, cap, cur, e3, _, _, _, _, _, _⟩
  · omega
  · rw [e1] at e3
    simp only [Value.slice.injEq] at e3
    have hD' := hD
    unfold OwnO at hD'
    rw [e1, e3.1] at hD'
    have hat := own_opAt hD' m _ hd
    exact ⟨y, D[m]'(by omega), g, ga, s, he, e3.1, hat, opV_of ⟨r.1, r.2.1, r.2.2.1, r.2.2.2.1, own_RN r.2.2.2.2⟩, r.1, r.2.2.2.2, hv'.1, hc, hs⟩
end Go.Proofs.YtgimcloadjjefabGreatDoor

/- A delta of a list made canonical. -/
namespace Go.Proofs.YtgimcloadjjefabGreatDoor
open Go Go.RowKit Go.Lib
set_option linter.unusedVariables false

theorem dle_of {w' : World} {C1 C2 : Nat} {dv : Value} {L : List Op5} (hd : DelV w' C1 C2 dv (canonL L)) (hg : ∀ o ∈ L, opE o = 0) (hfit : ∀ o ∈ L, FitA o) (hlen : L.length ≤ 2097152) (ht : txtS L ≤ 4194304) (hf : Fits8 L) : DlE w' C1 C2 dv (canonL L) ∧ (canonL L).length ≤ L.length ∧ txtS (canonL L) ≤ txtS L := by
  obtain ⟨k1, k2, k3⟩ := canon_ok (E := L) ⟨hg, hfit, by omega, by omega, hf.1, hf.2⟩
  exact ⟨⟨hd, k1.good, k1.fit, by omega, by omega, k1.base, k1.res⟩, by omega, by omega⟩
end Go.Proofs.YtgimcloadjjefabGreatDoor

/- The errors' numbers: what vellumnum.list and vellumnum.Num answer where all nineteen sentinels lie as laid. -/
namespace Go.Proofs.YtgimcloadjjefabGreatDoor
open Go Go.RowKit
set_option linter.unusedVariables false

/-- All nineteen. -/
def all19 : List Nat := List.range 19
abbrev Sent (a : Nat → Addr) (w : World) : Prop := Er all19 a w
theorem in19 {i : Nat} (h : i < 19) : i ∈ all19 := List.mem_range.2 h
def errA (a : Nat → Addr) : Array Value := #[errV a 0, errV a 1, errV a 2, errV a 3, errV a 4, errV a 5, errV a 6, errV a 7, errV a 8, errV a 9, errV a 10, errV a 11, errV a 12, errV a 13, errV a 14, errV a 15, errV a 16, errV a 17, errV a 18]

theorem wl_build (a : Nat → Addr) {ops : Array Oper} {rest : List Oper} {o : Oper} {A : Act} {w : World} {Q : Exit → Act → World → Prop} (hg : o.guard = none) (parts : Array (Nat × Operand)) (ho : o.op = .build 68 parts)
    (hp : (parts.map fun (i, x) => (i, A.eval x)) = #[(0, errV a 0), (1, errV a 1), (2, errV a 2), (3, errV a 3), (4, errV a 4), (5, errV a 5), (6, errV a 6), (7, errV a 7), (8, errV a 8), (9, errV a 9), (10, errV a 10), (11, errV a 11), (12, errV a 12), (13, errV a 13), (14, errV a 14), (15, errV a 15), (16, errV a 16), (17, errV a 17), (18, errV a 18)])
    (h : wpList Tryz.prog ops Q rest (A.put o.dst (.agg (errA a))) w) : wpList Tryz.prog ops Q (o :: rest) A w := by
  have hb : Tryz.prog.built 68 (parts.map fun (i, x) => (i, A.eval x)).toList = some (errA a) := by rw [hp]; kernel_rfl
  refine wpList_build hg 68 parts ho (by rw [hb]; rfl) ?_
  rw [hb]; exact h

theorem alloc_setRow (w : World) (old cs : Array Value) (t : TypeId) : (w.alloc (.cells old t)).setRow w.heap.size cs = w.alloc (.cells cs t) := by
  have : ((w.heap.push (.cells old t)).modify w.heap.size fun | .cells _ t f => .cells cs t f | o => o) = w.heap.push (.cells cs t) := by
    apply Array.ext
    · simp
    · intro i h1 h2
      rw [Array.getElem_modify]
      by_cases hi : w.heap.size = i
      · subst hi; simp
      · rw [if_neg hi]
        have : i < w.heap.size := by simp at h2; omega
        simp [Array.getElem_push, this]
  show { w with heap := (w.heap.push (.cells old t)).modify w.heap.size _ } = { w with heap := w.heap.push _ }
  rw [← this]; rfl

theorem wl_store (a : Nat → Addr) {ops : Array Oper} {rest : List Oper} {o : Oper} {A : Act} {w : World} {Q : Exit → Act → World → Prop} {old : Array Value} (hg : o.guard = none) (x y : Operand) (ho : o.op = .store 68 x y)
    (hx : A.eval x = .pointer (some ⟨w.heap.size, 0, none⟩)) (hy : A.eval y = .agg (errA a)) (hold : old.size = 19)
    (h : wpList Tryz.prog ops Q rest (A.put o.dst undef) (w.alloc (.cells (errA a) 68))) : wpList Tryz.prog ops Q (o :: rest) A (w.alloc (.cells old 68)) := by
  refine wpList_store_row hg 68 x y ho w.heap.size (errA a) hx hy 68 old (by show (w.heap.push _)[w.heap.size]? = _; simp) (by kernel_rfl) (by rw [hold]; rfl) (by kernel_rfl) ?_
  rw [alloc_setRow]; exact h

set_option maxHeartbeats 400000 in
set_option maxRecDepth 100000 in
theorem list_any (a : Nat → Addr) (w : World) (h : ∀ i, i < 19 → w.cell? ⟨[2, 3, 4, 5, 6, 7, 8, 9, 0, 10, 11, 1, 12, 13, 14, 15, 16, 17, 18].getD i 0, 0, none⟩ = some (errV a i)) :
    Calls Tryz.prog 34 #[] w fun e w' => e = .returned (.agg (errA a)) ∧ Below w.heap.size w w' := by
  have h0 : w.cell? ⟨2, 0, none⟩ = some (errV a 0) := h 0 (by omega)
  have h1 : w.cell? ⟨3, 0, none⟩ = some (errV a 1) := h 1 (by omega)
  have h2 : w.cell? ⟨4, 0, none⟩ = some (errV a 2) := h 2 (by omega)
  have h3 : w.cell? ⟨5, 0, none⟩ = some (errV a 3) := h 3 (by omega)
  have h4 : w.cell? ⟨6, 0, none⟩ = some (errV a 4) := h 4 (by omega)
  have h5 : w.cell? ⟨7, 0, none⟩ = some (errV a 5) := h 5 (by omega)
  have h6 : w.cell? ⟨8, 0, none⟩ = some (errV a 6) := h 6 (by omega)
  have h7 : w.cell? ⟨9, 0, none⟩ = some (errV a 7) := h 7 (by omega)
  have h8 : w.cell? ⟨0, 0, none⟩ = some (errV a 8) := h 8 (by omega)
  have h9 : w.cell? ⟨10, 0, none⟩ = some (errV a 9) := h 9 (by omega)
  have h10 : w.cell? ⟨11, 0, none⟩ = some (errV a 10) := h 10 (by omega)
  have h11 : w.cell? ⟨1, 0, none⟩ = some (errV a 11) := h 11 (by omega)
  have h12 : w.cell? ⟨12, 0, none⟩ = some (errV a 12) := h 12 (by omega)
  have h13 : w.cell? ⟨13, 0, none⟩ = some (errV a 13) := h 13 (by omega)
  have h14 : w.cell? ⟨14, 0, none⟩ = some (errV a 14) := h 14 (by omega)
  have h15 : w.cell? ⟨15, 0, none⟩ = some (errV a 15) := h 15 (by omega)
  have h16 : w.cell? ⟨16, 0, none⟩ = some (errV a 16) := h 16 (by omega)
  have h17 : w.cell? ⟨17, 0, none⟩ = some (errV a 17) := h 17 (by omega)
  have h18 : w.cell? ⟨18, 0, none⟩ = some (errV a 18) := h 18 (by omega)
  have z0 : 2 < w.heap.size := lt_of_cell h0
  have z1 : 3 < w.heap.size := lt_of_cell h1
  have z2 : 4 < w.heap.size := lt_of_cell h2
  have z3 : 5 < w.heap.size := lt_of_cell h3
  have z4 : 6 < w.heap.size := lt_of_cell h4
  have z5 : 7 < w.heap.size := lt_of_cell h5
  have z6 : 8 < w.heap.size := lt_of_cell h6
  have z7 : 9 < w.heap.size := lt_of_cell h7
  have z8 : 0 < w.heap.size := lt_of_cell h8
  have z9 : 10 < w.heap.size := lt_of_cell h9
  have z10 : 11 < w.heap.size := lt_of_cell h10
  have z11 : 1 < w.heap.size := lt_of_cell h11
  have z12 : 12 < w.heap.size := lt_of_cell h12
  have z13 : 13 < w.heap.size := lt_of_cell h13
  have z14 : 14 < w.heap.size := lt_of_cell h14
  have z15 : 15 < w.heap.size := lt_of_cell h15
  have z16 : 16 < w.heap.size := lt_of_cell h16
  have z17 : 17 < w.heap.size := lt_of_cell h17
  have z18 : 18 < w.heap.size := lt_of_cell h18
  clear h
  go_enter Tryz.func34, Tryz.ntmps34
  go_wp2_with (first | (refine wl_build a rfl _ rfl (by kernel_rfl) ?_) | (refine wl_store a rfl _ _ rfl (by kernel_rfl) (by kernel_rfl) (by kernel_rfl) ?_))
  have hl := run_loadVar_new (P := Tryz.prog) w 68 (errA a) 19 31 Tryz.underlying68 (by kernel_rfl)
  refine bodyPost_ret (v := .agg (errA a)) ?_ rfl ⟨rfl, (Below.refl _ _).alloc (Nat.le_refl _) _⟩
  simp only [results, Tryz.results34]
  simp [asAddr, Act.put, hl]

theorem errA_get (a : Nat → Addr) (k : Nat) (hk : k < 19) : (errA a)[k]? = some (errV a k) := by
  have e : errA a = ((List.range 19).map (errV a)).toArray := rfl
  rw [e]
  simp [hk]

theorem index_arr {A : Array Value} {k : Nat} {v : Value} (hk : k < 19) (hA : A[k]? = some v) (w : World) : (Instr.index 68 (.agg A) (.int .i64 k)).run Tryz.prog w = .ok v w := by
  obtain ⟨i, hi, hs⟩ := Option.map_eq_some_iff.1 (show (Tryz.prog.info? 31).map (·.size) = some 1 by kernel_rfl)
  have hk2 : (0 : Int) ≤ k ∧ (k : Int) < 19 := by omega
  simp [Instr.index, run_underlying Tryz.underlying68, asIntOf, hk2, sizeOf, typeInfo, hi, hs, part, hA]
  omega

theorem num_nil (w : World) : Calls Tryz.prog 19 #[.nilIface] w fun e w' => e = .returned (.int .i64 0) ∧ w' = w := by
  go_enter Tryz.func19, Tryz.ntmps19
  go_wp2
  go_ret
  exact ⟨rfl, rfl⟩

set_option maxHeartbeats 400000 in
theorem num_err {a : Nat → Addr} {w : World} (h : Sent a w) (n : Nat) (hn : n < 19) :
    Calls Tryz.prog 19 #[errV a n] w fun e w' => e = .returned (.int .i64 (n + 1)) ∧ Below w.heap.size w w' := by
  have hcell : ∀ i, i < 19 → w.cell? ⟨[2, 3, 4, 5, 6, 7, 8, 9, 0, 10, 11, 1, 12, 13, 14, 15, 16, 17, 18].getD i 0, 0, none⟩ = some (errV a i) := fun i hi => h.cell i (in19 hi)
  have hnil := eql_nil a n
  have hsame := eql_same a n
  obtain ⟨A, hA⟩ : ∃ A, A = errA a := ⟨_, rfl⟩
  have hAs : A.size = 19 := by rw [hA]; rfl
  have hAg : ∀ k, k < 19 → A[k]? = some (errV a k) := by rw [hA]; exact errA_get a
  go_enter Tryz.func19, Tryz.ntmps19
  go_wp2_with (go_at_call 34; refine (list_any a _ hcell).mono ?_; rintro e w1 ⟨rfl, hb⟩; have h1 := h.below hb; clear hcell h hnil; rw [← hA]; clear hA)
  go_loop [8] (fun i => ∃ k : Nat, k ≤ n ∧ i = .int .i64 k) (fun i => 19 - (intOf i).toNat)
  case atStart => exact ⟨0, Nat.zero_le _, rfl⟩
  case round =>
    obtain ⟨k, hk, rfl⟩ := hrel
    have hAk := hAg k (by omega)
    have hk9 : (k : Int) < 19 := by omega
    have hix := index_arr (A := A) (by omega : k < 19) hAk
    clear hAg hAk
    by_cases hlt : k < n
    · have he := eql_other h1 n k (in19 hn) (in19 (by omega)) (by omega)
      clear h1 hsame
      go_wp2
      go_round
      case rel => exact ⟨k + 1, by omega, by go_num⟩
      case measure => simp [intOf]; omega
    · obtain rfl : k = n := by omega
      clear h1
      go_wp2
      go_ret
      exact ⟨rfl, hb⟩

theorem num_of {a : Nat → Addr} {w : World} (h : Sent a w) (e : Nat) (he : e ≤ 19) :
    Calls Tryz.prog 19 #[errOf a e] w fun r w' => r = .returned (.int .i64 e) ∧ Below w.heap.size w w' := by
  cases e with
  | zero => exact (num_nil w).mono fun r w' ⟨h1, h2⟩ => ⟨h1, by rw [h2]; exact Below.refl _ _⟩
  | succ n => rw [errOf_succ]; exact num_err h n (by omega)
end Go.Proofs.YtgimcloadjjefabGreatDoor

/- Deltas of lists made canonical; of all arguments vellumlaw08.MeasureShifts answers true. -/
namespace Go.Proofs.YtgimcloadjjefabGreatDoor
open Go Go.RowKit Go.Lib
set_option linter.unusedVariables false

theorem shift_dle {w w' : World} {B1 B2 C1 C2 : Nat} {v dv : Value} {E : List Op5} {n : Int} (h : DlE w B1 B2 v E) (hn : 0 ≤ n ∧ n ≤ 1099511627776) (hl : E.length + 1 ≤ 2097152) (hf : FitSh E n) (hd : DelV w' C1 C2 dv (shift8 E n)) : DlE w' C1 C2 dv (shift8 E n) ∧ (shift8 E n).length ≤ E.length + 1 ∧ txtS (shift8 E n) ≤ txtS E := by
  by_cases hz : n = 0 ∨ E = []
  · have e : shift8 E n = E := if_pos hz
    rw [e] at hd ⊢
    exact ⟨⟨hd, h.g, h.fit, h.len, h.txt, h.fits⟩, by omega, Nat.le_refl _⟩
  · have e : shift8 E n = canonL (pl7 n :: E) := if_neg hz
    rw [e] at hd ⊢
    have h0 : E ≠ [] := fun h => hz (Or.inr h)
    have ht : txtS (pl7 n :: E) = txtS E := by rw [txtS_cons]; show 0 + _ = _; omega
    obtain ⟨k1, k2, k3⟩ := dle_of hd (fun o ho => (List.mem_cons.1 ho).elim (fun e => e ▸ (pl_good (by omega) (by omega)).1) (h.g o)) (fun o ho => (List.mem_cons.1 ho).elim (fun e => e ▸ pl_fit n) (h.fit o)) (by simpa using hl) (by rw [ht]; exact h.txt) ((fits_sh h0).2 hf)
    exact ⟨k1, by simpa using k2, by rw [← ht]; exact k3⟩
theorem co_slice {w : World} {B : Nat} {v : Value} {E : List Op5} (h : CoO w B v E) : ∃ p n c, v = .slice p n c := by
  obtain ⟨D, ⟨p, c, e, _⟩, _⟩ := h.re
  exact ⟨p, _, c, e⟩
theorem m39 (x : Int) : ∃ M : Int, wrap64 ((IntKind.u64.wrap x).tmod 549755813888) = M ∧ 0 ≤ M ∧ M < 549755813888 := by
  obtain ⟨U, hU⟩ : ∃ U, IntKind.u64.wrap x = U := ⟨_, rfl⟩
  have h0 : 0 ≤ U := by
    rw [← hU, IntKind.wrap_u64]; omega
  rw [hU]
  have h1 := Int.tmod_lt_of_pos U (show (0 : Int) < 549755813888 by omega)
  have h2 : 0 ≤ U.tmod 549755813888 := Int.tmod_nonneg _ h0
  exact ⟨_, rfl, by unfold wrap64; omega, by unfold wrap64; omega⟩
theorem sh_canon {E : List Op5} (h : canonB E = true) : CanO E := (canB_can h).1
set_option maxHeartbeats 8000000 in
set_option maxRecDepth 100000 in
theorem measureShifts_any {I : List Nat} {a : Nat → Addr} (va : Value) (x1 x2 : Int) (A : List Op5) (w : World) (hJ : ∀ i ∈ IR8, i ∈ I) (hS : Std I a w) (hN : Sent a w) (ra : ReO w va A) (fA : FitL A) (lA : A.length + 1 ≤ 1048576) (tA : txtS A ≤ 1048576) (i1 : -9223372036854775808 ≤ x1 ∧ x1 ≤ 9223372036854775807) (i2 : -9223372036854775808 ≤ x2 ∧ x2 ≤ 9223372036854775807) :
    Calls Tryz.prog 6 #[va, .int .i64 x1, .int .i64 x2] w fun r w' => r = .returned (.bool true) ∧ Below w.heap.size w w' := by
  obtain ⟨hI, h11⟩ := ir8 hJ
  have cF := fixed8_any w hI h11 hS
  have cO : Hid (∀ W, Below w.heap.size w W → Calls Tryz.prog 8 #[va] W fun r w' => ∃ dv, r = .returned dv ∧ (canonB A = true → (∃ q, dv = .pointer (some ⟨q, 0, none⟩)) ∧ DlE w' W.heap.size W.heap.size dv A) ∧ (canonB A = false → dv = .pointer none) ∧ Below W.heap.size W w') := fun W hW => of8_any va A W hI (hS.below hW) (ra.below hW) fA (by omega) (by omega)
  have cN : Hid (∀ e, e ≤ 19 → ∀ W, Below w.heap.size w W → Calls Tryz.prog 19 #[errOf a e] W fun r w' => r = .returned (.int .i64 e) ∧ Below W.heap.size W w') := fun e he W hW => num_of (hN.below hW) e he
  have cS : Hid (∀ (E : List Op5) (u : Value) (B1 B2 : Nat) (n : Int) W, Below w.heap.size w W → DlE W B1 B2 u E → E.length + 1 ≤ 2097152 → 0 ≤ n ∧ n ≤ 1099511627776 → Calls Tryz.prog 20 #[u, .int .i64 n] W fun r w' => ∃ dv er, r = .returned (.tuple #[dv, er]) ∧ (FitSh E n → er = .nilIface ∧ (∃ q, dv = .pointer (some ⟨q, 0, none⟩)) ∧ ∃ C1 C2, DlE w' C1 C2 dv (shift8 E n)) ∧ (¬ FitSh E n → er = errV a 10 ∧ dv = .pointer none) ∧ Below W.heap.size W w') := fun E u B1 B2 n W hW hE hl hn => by
    refine (shift8_any u E n W hI h11 (hS.below hW) hE hl (by omega)).mono ?_
    rintro r w' ⟨dv, er, rfl, ⟨-, y2⟩, y3⟩
    obtain ⟨z1, z2⟩ := y2 (by omega)
    refine ⟨dv, er, rfl, fun h => ?_, z2, y3⟩
    obtain ⟨e1, C1, C2, hd⟩ := z1 h
    obtain ⟨q, pv, PL, e, _⟩ := id hd
    exact ⟨e1, ⟨q, e⟩, C1, C2, (shift_dle hE hn hl h hd).1⟩
  have cI : Hid (∀ (E F : List Op5) (u v : Value) (B1 B2 : Nat) W, DlE W B1 B2 u E → ReO W v F → F.length ≤ 2097152 → (∀ e ∈ F, e.A.length ≤ 1048576) → Calls Tryz.prog 16 #[u, v] W fun r w' => r = .returned (.bool (decide (E = F))) ∧ Below W.heap.size W w') := fun E F u v B1 B2 W h1 h2 h3 h4 => is8_any u v E F W h1 h2 h3 h4
  have HA : Hid (∀ W, Below w.heap.size w W → ReO W va A) := fun W hW => ra.below hW
  have HF : Hid (FitL A ∧ A.length + 1 ≤ 1048576) := ⟨fA, lA⟩
  obtain ⟨D0, ⟨p, cap, rfl, _⟩, hre0⟩ := id ra
  have HDl : Hid (D0.length = A.length) := forall2_len hre0
  obtain ⟨M, hM, m0, m1⟩ := m39 x1
  obtain ⟨N, hN', n0, n1⟩ := m39 x2
  clear hI h11 hJ hS hN ra fA lA tA i1 i2
  go_enter Tryz.func6, Tryz.ntmps6
  go_wp2_with fail
  refine cF.mono ?_; rintro r w1 ⟨rfl, b1⟩
  have c1 := cO.out w1 b1
  clear cF cO
  go_wp2_with fail
  refine c1.mono ?_; rintro r w2 ⟨dv, rfl, h1, h0, b2⟩
  have hb2 := b1.trans (b2.mono b1.size)
  clear c1 b1 b2
  by_cases hc : canonB A = true
  · obtain ⟨⟨q, rfl⟩, hd⟩ := h1 hc
    have HD2 := Hid.mk8 hd
    have HC := Hid.mk8 (sh_canon hc)
    -- GEN
    clear h1 h0 hc hd
    have c1 := cS.out A _ _ _ 0 w2 hb2 HD2.out (by have := HF.out.2; omega) (by omega)
    go_wp2_with fail
    refine c1.mono ?_; rintro r w1 ⟨dv, er, rfl, y1, -, b1⟩
    have hb1 := hb2.trans (b1.mono hb2.size)
    have HD_1 := Hid.mk8 (HD2.out.below b1)
    obtain ⟨rfl, ⟨q0, rfl⟩, C1, C2, hd0⟩ := y1 (Or.inr (by have := HD_1.out.fits; unfold Fits8 at this; omega))
    rw [show shift8 A 0 = A from if_pos (Or.inl rfl)] at hd0
    have HZ_1 := Hid.mk8 (hd0)
    clear c1 b1 hb2 HD2 y1 hd0
    have c2 := cI.out A A _ (.slice p D0.length cap) _ _ w1 HZ_1.out (HA.out w1 hb1) (by have := HF.out.2; omega) (fun e he => (HF.out.1 e he).n)
    rw [decide_eq_true rfl] at c2
    go_wp2_with fail
    refine c2.mono ?_; rintro r w2 ⟨rfl, b2⟩
    have hb2 := hb1.trans (b2.mono hb1.size)
    have HD_2 := Hid.mk8 (HD_1.out.below b2)
    have HZ_2 := Hid.mk8 (HZ_1.out.below b2)
    clear c2 b2 hb1 HD_1 HZ_1
    have hMN : IntKind.i64.wrap (M + N) = M + N := by rw [IntKind.wrap_i64]; omega
    by_cases hfit : FitSh A (M + N)
    · have hfM : FitSh A M := hfit.imp id (fun h => by have := sums_nn HD_2.out.wel; omega)
      have ca3 := cS.out A _ _ _ (M) w2 hb2 HD_2.out (by have := HF.out.2; omega) (by omega)
      go_wp2_with fail
      refine ca3.mono ?_; rintro r wa3 ⟨dv, er, rfl, y1, -, ba3⟩
      have hba3 := hb2.trans (ba3.mono hb2.size)
      have HD_a3 := Hid.mk8 (HD_2.out.below ba3)
      obtain ⟨rfl, ⟨q5, rfl⟩, C1, C2, hd0⟩ := y1 hfM
      have HO_a3 := Hid.mk8 (hd0)
      clear ca3 ba3 hb2 HD_2 y1 hd0
      have hO2 := (shift_dle HD_a3.out (n := M) (by omega) (by have := HF.out.2; omega) hfM HO_a3.out.d).2.1
      have ca4 := cS.out A _ _ _ (M + N) wa3 hba3 HD_a3.out (by have := HF.out.2; omega) (by omega)
      go_wp2_with fail
      refine ca4.mono ?_; rintro r wa4 ⟨dv, er, rfl, y1, -, ba4⟩
      have hba4 := hba3.trans (ba4.mono hba3.size)
      have HD_a4 := Hid.mk8 (HD_a3.out.below ba4)
      have HO_a4 := Hid.mk8 (HO_a3.out.below ba4)
      obtain ⟨rfl, ⟨q6, rfl⟩, C1, C2, hd0⟩ := y1 hfit
      have HB_a4 := Hid.mk8 (hd0)
      clear ca4 ba4 hba3 HD_a3 HO_a3 y1 hd0
      by_cases hnil : A = []
      · have hz : ¬ ((D0.length : Int) > 0) := by rw [HDl.out, hnil]; simp
        have hzb : ((D0.length : Int) == 0) = true := by rw [HDl.out, hnil]; rfl
        have e2 : shift8 (shift8 A M) N = shift8 A (M + N) := shift_two HC.out m0 n0
        have hf2 : FitSh (shift8 A M) N := Or.inl (by rw [hnil]; exact if_pos (Or.inr rfl))
        clear hfit hfM hnil
        have cn5 := cS.out (shift8 A M) _ _ _ (N) wa4 hba4 HO_a4.out (by have := HF.out.2; omega) (by omega)
        go_wp2_with fail
        refine cn5.mono ?_; rintro r wn5 ⟨dv, er, rfl, y1, -, bn5⟩
        have hbn5 := hba4.trans (bn5.mono hba4.size)
        have HD_n5 := Hid.mk8 (HD_a4.out.below bn5)
        have HO_n5 := Hid.mk8 (HO_a4.out.below bn5)
        have HB_n5 := Hid.mk8 (HB_a4.out.below bn5)
        obtain ⟨rfl, ⟨q7, rfl⟩, C1, C2, hd0⟩ := y1 hf2
        have HT_n5 := Hid.mk8 (hd0)
        clear cn5 bn5 hba4 HD_a4 HO_a4 HB_a4 y1 hd0
        have cn6 := num_nil wn5
        go_wp2_with fail
        refine cn6.mono ?_; rintro r wq ⟨rfl, hwq⟩; obtain rfl := hwq.symm
        clear cn6
        have cn7 := num_nil wn5
        go_wp2_with fail
        refine cn7.mono ?_; rintro r wq ⟨rfl, hwq⟩; obtain rfl := hwq.symm
        clear cn7
        have cn8 := ops_any _ _ wn5 HB_n5.out.d HB_n5.out.g HB_n5.out.n (Nat.le_trans HB_n5.out.len (by decide))
        go_wp2_with fail
        refine cn8.mono ?_; rintro r wn8 ⟨vo, rfl, hco, bn8⟩
        have hbn8 := hbn5.trans (bn8.mono hbn5.size)
        have HD_n8 := Hid.mk8 (HD_n5.out.below bn8)
        have HO_n8 := Hid.mk8 (HO_n5.out.below bn8)
        have HB_n8 := Hid.mk8 (HB_n5.out.below bn8)
        have HT_n8 := Hid.mk8 (HT_n5.out.below bn8)
        obtain ⟨po, no, co, rfl⟩ := co_slice hco
        have hre := hco.re
        rw [← e2] at hre
        have HV_n8 := Hid.mk8 (hre)
        clear cn8 bn8 hbn5 HD_n5 HO_n5 HB_n5 HT_n5 hco hre
        have cn9 := cI.out _ _ _ _ _ _ wn8 HT_n8.out HV_n8.out HT_n8.out.len (fun e he => (HT_n8.out.fit e he).n)
        rw [decide_eq_true rfl] at cn9
        go_wp2_with fail
        refine cn9.mono ?_; rintro r wn9 ⟨rfl, bn9⟩
        have hbn9 := hbn8.trans (bn9.mono hbn8.size)
        have HD_n9 := Hid.mk8 (HD_n8.out.below bn9)
        have HO_n9 := Hid.mk8 (HO_n8.out.below bn9)
        have HB_n9 := Hid.mk8 (HB_n8.out.below bn9)
        have HT_n9 := Hid.mk8 (HT_n8.out.below bn9)
        have HV_n9 := Hid.mk8 (HV_n8.out.below bn9)
        clear cn9 bn9 hbn8 HD_n8 HO_n8 HB_n8 HT_n8 HV_n8
        go_wp2
        go_ret
        exact ⟨rfl, hbn9⟩
      · have hz : ((D0.length : Int) > 0) := by have := List.length_pos_iff.2 hnil; have := HDl.out; omega
        have hzb : ((D0.length : Int) == 0) = false := by have := List.length_pos_iff.2 hnil; have := HDl.out; rw [beq_eq_false_iff_ne]; omega
        have e2 : shift8 (shift8 A M) N = shift8 A (M + N) := shift_two HC.out m0 n0
        obtain ⟨f1, f2⟩ := hfit.resolve_left hnil
        have s1 := shift_sums HC.out m0 hnil
        have s2 := shift_sums HC.out (show 0 ≤ M + N by omega) hnil
        have hf2 : FitSh (shift8 A M) N := Or.inr (by omega)
        have hnn := sums_nn HD_a4.out.wel
        obtain ⟨BB, hBB⟩ : ∃ x, sumB A = x := ⟨_, rfl⟩
        obtain ⟨RR, hRR⟩ : ∃ x, sumR A = x := ⟨_, rfl⟩
        rw [hBB] at f1 hnn s2
        rw [hRR] at f2 hnn
        have s2' := s2.1
        have k1 : IntKind.i64.wrap (BB + M) = BB + M := by rw [IntKind.wrap_i64]; omega
        have k2 : IntKind.i64.wrap (BB + M + N) = BB + M + N := by rw [IntKind.wrap_i64]; omega
        have k3 : IntKind.i64.wrap (RR + M) = RR + M := by rw [IntKind.wrap_i64]; omega
        have k4 : IntKind.i64.wrap (RR + M + N) = RR + M + N := by rw [IntKind.wrap_i64]; omega
        have k5 : ¬ (BB + M + N > 1099511627776) := by omega
        have k6 : ¬ (RR + M + N > 1099511627776) := by omega
        have k7 : (M + N + BB == BB + M + N) = true := by rw [beq_iff_eq]; omega
        clear hfit hfM hnil s1 s2 f1 f2
        have cm5 := base8_any _ _ wa4 HD_a4.out
        rw [hBB] at cm5
        go_wp2_with fail
        refine cm5.mono ?_; rintro r wm5 ⟨rfl, bm5⟩
        have hbm5 := hba4.trans (bm5.mono hba4.size)
        have HD_m5 := Hid.mk8 (HD_a4.out.below bm5)
        have HO_m5 := Hid.mk8 (HO_a4.out.below bm5)
        have HB_m5 := Hid.mk8 (HB_a4.out.below bm5)
        clear cm5 bm5 hba4 HD_a4 HO_a4 HB_a4
        have cm6 := result8_any _ _ wm5 HD_m5.out
        rw [hRR] at cm6
        go_wp2_with fail
        refine cm6.mono ?_; rintro r wm6 ⟨rfl, bm6⟩
        have hbm6 := hbm5.trans (bm6.mono hbm5.size)
        have HD_m6 := Hid.mk8 (HD_m5.out.below bm6)
        have HO_m6 := Hid.mk8 (HO_m5.out.below bm6)
        have HB_m6 := Hid.mk8 (HB_m5.out.below bm6)
        clear cm6 bm6 hbm5 HD_m5 HO_m5 HB_m5
        have cm7 := cS.out (shift8 A M) _ _ _ (N) wm6 hbm6 HO_m6.out (by have := HF.out.2; omega) (by omega)
        go_wp2_with fail
        refine cm7.mono ?_; rintro r wm7 ⟨dv, er, rfl, y1, -, bm7⟩
        have hbm7 := hbm6.trans (bm7.mono hbm6.size)
        have HD_m7 := Hid.mk8 (HD_m6.out.below bm7)
        have HO_m7 := Hid.mk8 (HO_m6.out.below bm7)
        have HB_m7 := Hid.mk8 (HB_m6.out.below bm7)
        obtain ⟨rfl, ⟨q7, rfl⟩, C1, C2, hd0⟩ := y1 hf2
        have HT_m7 := Hid.mk8 (hd0)
        clear cm7 bm7 hbm6 HD_m6 HO_m6 HB_m6 y1 hd0
        have cm8 := num_nil wm7
        go_wp2_with fail
        refine cm8.mono ?_; rintro r wq ⟨rfl, hwq⟩; obtain rfl := hwq.symm
        clear cm8
        have cm9 := num_nil wm7
        go_wp2_with fail
        refine cm9.mono ?_; rintro r wq ⟨rfl, hwq⟩; obtain rfl := hwq.symm
        clear cm9
        have cm10 := ops_any _ _ wm7 HB_m7.out.d HB_m7.out.g HB_m7.out.n (Nat.le_trans HB_m7.out.len (by decide))
        go_wp2_with fail
        refine cm10.mono ?_; rintro r wm10 ⟨vo, rfl, hco, bm10⟩
        have hbm10 := hbm7.trans (bm10.mono hbm7.size)
        have HD_m10 := Hid.mk8 (HD_m7.out.below bm10)
        have HO_m10 := Hid.mk8 (HO_m7.out.below bm10)
        have HB_m10 := Hid.mk8 (HB_m7.out.below bm10)
        have HT_m10 := Hid.mk8 (HT_m7.out.below bm10)
        obtain ⟨po, no, co, rfl⟩ := co_slice hco
        have hre := hco.re
        rw [← e2] at hre
        have HV_m10 := Hid.mk8 (hre)
        clear cm10 bm10 hbm7 HD_m7 HO_m7 HB_m7 HT_m7 hco hre
        have cm11 := cI.out _ _ _ _ _ _ wm10 HT_m10.out HV_m10.out HT_m10.out.len (fun e he => (HT_m10.out.fit e he).n)
        rw [decide_eq_true rfl] at cm11
        go_wp2_with fail
        refine cm11.mono ?_; rintro r wm11 ⟨rfl, bm11⟩
        have hbm11 := hbm10.trans (bm11.mono hbm10.size)
        have HD_m11 := Hid.mk8 (HD_m10.out.below bm11)
        have HO_m11 := Hid.mk8 (HO_m10.out.below bm11)
        have HB_m11 := Hid.mk8 (HB_m10.out.below bm11)
        have HT_m11 := Hid.mk8 (HT_m10.out.below bm11)
        have HV_m11 := Hid.mk8 (HV_m10.out.below bm11)
        clear cm11 bm11 hbm10 HD_m10 HO_m10 HB_m10 HT_m10 HV_m10
        have cm12 := base8_any _ _ wm11 HB_m11.out
        rw [s2'] at cm12
        go_wp2_with fail
        refine cm12.mono ?_; rintro r wm12 ⟨rfl, bm12⟩
        have hbm12 := hbm11.trans (bm12.mono hbm11.size)
        have HD_m12 := Hid.mk8 (HD_m11.out.below bm12)
        have HO_m12 := Hid.mk8 (HO_m11.out.below bm12)
        have HB_m12 := Hid.mk8 (HB_m11.out.below bm12)
        have HT_m12 := Hid.mk8 (HT_m11.out.below bm12)
        clear cm12 bm12 hbm11 HD_m11 HO_m11 HB_m11 HT_m11
        have cm13 := base8_any _ _ wm12 HD_m12.out
        rw [hBB] at cm13
        go_wp2_with fail
        refine cm13.mono ?_; rintro r wm13 ⟨rfl, bm13⟩
        have hbm13 := hbm12.trans (bm13.mono hbm12.size)
        have HD_m13 := Hid.mk8 (HD_m12.out.below bm13)
        have HO_m13 := Hid.mk8 (HO_m12.out.below bm13)
        have HB_m13 := Hid.mk8 (HB_m12.out.below bm13)
        have HT_m13 := Hid.mk8 (HT_m12.out.below bm13)
        clear cm13 bm13 hbm12 HD_m12 HO_m12 HB_m12 HT_m12
        go_wp2
        go_ret
        exact ⟨rfl, hbm13⟩
    · have hnil : A ≠ [] := fun h => hfit (Or.inl h)
      have hz : ((D0.length : Int) > 0) := by have := List.length_pos_iff.2 hnil; have := HDl.out; omega
      have hnn := sums_nn HD_2.out.wel
      have hff := HD_2.out.fits
      unfold Fits8 at hff
      have hov : sumB A + M + N > 1099511627776 ∨ (¬ (sumB A + M + N > 1099511627776) ∧ sumR A + M + N > 1099511627776) := by
        have h : ¬ (M + N + sumB A ≤ 1099511627776 ∧ M + N + sumR A ≤ 1099511627776) := fun h => hfit (Or.inr h)
        omega
      have k1 : IntKind.i64.wrap (sumB A + M) = sumB A + M := by rw [IntKind.wrap_i64]; omega
      have k2 : IntKind.i64.wrap (sumB A + M + N) = sumB A + M + N := by rw [IntKind.wrap_i64]; omega
      have k3 : IntKind.i64.wrap (sumR A + M) = sumR A + M := by rw [IntKind.wrap_i64]; omega
      have k4 : IntKind.i64.wrap (sumR A + M + N) = sumR A + M + N := by rw [IntKind.wrap_i64]; omega
      by_cases hfM : FitSh A M
      · have s1 := shift_sums HC.out m0 hnil
        have hsn := shift_ne HC.out m0 hnil
        have hf2 : ¬ FitSh (shift8 A M) N := fun h => hfit (Or.inr (by have := h.resolve_left hsn; omega))
        have ce3 := cS.out A _ _ _ (M) w2 hb2 HD_2.out (by have := HF.out.2; omega) (by omega)
        go_wp2_with fail
        refine ce3.mono ?_; rintro r we3 ⟨dv, er, rfl, y1, -, be3⟩
        have hbe3 := hb2.trans (be3.mono hb2.size)
        have HD_e3 := Hid.mk8 (HD_2.out.below be3)
        obtain ⟨rfl, ⟨q5, rfl⟩, C1, C2, hd0⟩ := y1 hfM
        have HO_e3 := Hid.mk8 (hd0)
        clear ce3 be3 hb2 HD_2 y1 hd0
        have hO2 := (shift_dle HD_e3.out (n := M) (by omega) (by have := HF.out.2; omega) hfM HO_e3.out.d).2.1
        have ce4 := cS.out A _ _ _ (M + N) we3 hbe3 HD_e3.out (by have := HF.out.2; omega) (by omega)
        go_wp2_with fail
        refine ce4.mono ?_; rintro r we4 ⟨dv, er, rfl, -, y1, be4⟩
        have hbe4 := hbe3.trans (be4.mono hbe3.size)
        have HD_e4 := Hid.mk8 (HD_e3.out.below be4)
        have HO_e4 := Hid.mk8 (HO_e3.out.below be4)
        obtain ⟨rfl, rfl⟩ := y1 hfit
        clear ce4 be4 hbe3 HD_e3 HO_e3 y1
        clear hfit hfM s1 hsn hnil hff
        obtain ⟨BB, hBB⟩ : ∃ x, sumB A = x := ⟨_, rfl⟩
        obtain ⟨RR, hRR⟩ : ∃ x, sumR A = x := ⟨_, rfl⟩
        rw [hBB] at k1 k2 hov
        rw [hRR] at k3 k4 hov
        rcases hov with hov | ⟨hov, hov2⟩
        · clear hnn
          have cep5 := base8_any _ _ we4 HD_e4.out
          rw [hBB] at cep5
          go_wp2_with fail
          refine cep5.mono ?_; rintro r wep5 ⟨rfl, bep5⟩
          have hbep5 := hbe4.trans (bep5.mono hbe4.size)
          have HD_ep5 := Hid.mk8 (HD_e4.out.below bep5)
          have HO_ep5 := Hid.mk8 (HO_e4.out.below bep5)
          clear cep5 bep5 hbe4 HD_e4 HO_e4
          have cep6 := cN.out 11 (by decide) wep5 hbep5
          rw [show errOf a 11 = errV a 10 from rfl] at cep6
          go_wp2_with fail
          refine cep6.mono ?_; rintro r wep6 ⟨rfl, bep6⟩
          have hbep6 := hbep5.trans (bep6.mono hbep5.size)
          have HD_ep6 := Hid.mk8 (HD_ep5.out.below bep6)
          have HO_ep6 := Hid.mk8 (HO_ep5.out.below bep6)
          clear cep6 bep6 hbep5 HD_ep5 HO_ep5
          have cep7 := cS.out (shift8 A M) _ _ _ (N) wep6 hbep6 HO_ep6.out (by have := HF.out.2; omega) (by omega)
          go_wp2_with fail
          refine cep7.mono ?_; rintro r wep7 ⟨dv, er, rfl, -, y1, bep7⟩
          have hbep7 := hbep6.trans (bep7.mono hbep6.size)
          have HD_ep7 := Hid.mk8 (HD_ep6.out.below bep7)
          have HO_ep7 := Hid.mk8 (HO_ep6.out.below bep7)
          obtain ⟨rfl, rfl⟩ := y1 hf2
          clear cep7 bep7 hbep6 HD_ep6 HO_ep6 y1
          have cep8 := cN.out 11 (by decide) wep7 hbep7
          rw [show errOf a 11 = errV a 10 from rfl] at cep8
          go_wp2_with fail
          refine cep8.mono ?_; rintro r wep8 ⟨rfl, bep8⟩
          have hbep8 := hbep7.trans (bep8.mono hbep7.size)
          have HD_ep8 := Hid.mk8 (HD_ep7.out.below bep8)
          have HO_ep8 := Hid.mk8 (HO_ep7.out.below bep8)
          clear cep8 bep8 hbep7 HD_ep7 HO_ep7
          have cep9 := cN.out 11 (by decide) wep8 hbep8
          rw [show errOf a 11 = errV a 10 from rfl] at cep9
          go_wp2_with fail
          refine cep9.mono ?_; rintro r wep9 ⟨rfl, bep9⟩
          have hbep9 := hbep8.trans (bep9.mono hbep8.size)
          have HD_ep9 := Hid.mk8 (HD_ep8.out.below bep9)
          have HO_ep9 := Hid.mk8 (HO_ep8.out.below bep9)
          clear cep9 bep9 hbep8 HD_ep8 HO_ep8
          go_wp2
          go_ret
          exact ⟨rfl, hbep9⟩
        · clear hnn
          have ceq5 := base8_any _ _ we4 HD_e4.out
          rw [hBB] at ceq5
          go_wp2_with fail
          refine ceq5.mono ?_; rintro r weq5 ⟨rfl, beq5⟩
          have hbeq5 := hbe4.trans (beq5.mono hbe4.size)
          have HD_eq5 := Hid.mk8 (HD_e4.out.below beq5)
          have HO_eq5 := Hid.mk8 (HO_e4.out.below beq5)
          clear ceq5 beq5 hbe4 HD_e4 HO_e4
          have ceq6 := result8_any _ _ weq5 HD_eq5.out
          rw [hRR] at ceq6
          go_wp2_with fail
          refine ceq6.mono ?_; rintro r weq6 ⟨rfl, beq6⟩
          have hbeq6 := hbeq5.trans (beq6.mono hbeq5.size)
          have HD_eq6 := Hid.mk8 (HD_eq5.out.below beq6)
          have HO_eq6 := Hid.mk8 (HO_eq5.out.below beq6)
          clear ceq6 beq6 hbeq5 HD_eq5 HO_eq5
          have ceq7 := cN.out 11 (by decide) weq6 hbeq6
          rw [show errOf a 11 = errV a 10 from rfl] at ceq7
          go_wp2_with fail
          refine ceq7.mono ?_; rintro r weq7 ⟨rfl, beq7⟩
          have hbeq7 := hbeq6.trans (beq7.mono hbeq6.size)
          have HD_eq7 := Hid.mk8 (HD_eq6.out.below beq7)
          have HO_eq7 := Hid.mk8 (HO_eq6.out.below beq7)
          clear ceq7 beq7 hbeq6 HD_eq6 HO_eq6
          have ceq8 := cS.out (shift8 A M) _ _ _ (N) weq7 hbeq7 HO_eq7.out (by have := HF.out.2; omega) (by omega)
          go_wp2_with fail
          refine ceq8.mono ?_; rintro r weq8 ⟨dv, er, rfl, -, y1, beq8⟩
          have hbeq8 := hbeq7.trans (beq8.mono hbeq7.size)
          have HD_eq8 := Hid.mk8 (HD_eq7.out.below beq8)
          have HO_eq8 := Hid.mk8 (HO_eq7.out.below beq8)
          obtain ⟨rfl, rfl⟩ := y1 hf2
          clear ceq8 beq8 hbeq7 HD_eq7 HO_eq7 y1
          have ceq9 := cN.out 11 (by decide) weq8 hbeq8
          rw [show errOf a 11 = errV a 10 from rfl] at ceq9
          go_wp2_with fail
          refine ceq9.mono ?_; rintro r weq9 ⟨rfl, beq9⟩
          have hbeq9 := hbeq8.trans (beq9.mono hbeq8.size)
          have HD_eq9 := Hid.mk8 (HD_eq8.out.below beq9)
          have HO_eq9 := Hid.mk8 (HO_eq8.out.below beq9)
          clear ceq9 beq9 hbeq8 HD_eq8 HO_eq8
          have ceq10 := cN.out 11 (by decide) weq9 hbeq9
          rw [show errOf a 11 = errV a 10 from rfl] at ceq10
          go_wp2_with fail
          refine ceq10.mono ?_; rintro r weq10 ⟨rfl, beq10⟩
          have hbeq10 := hbeq9.trans (beq10.mono hbeq9.size)
          have HD_eq10 := Hid.mk8 (HD_eq9.out.below beq10)
          have HO_eq10 := Hid.mk8 (HO_eq9.out.below beq10)
          clear ceq10 beq10 hbeq9 HD_eq9 HO_eq9
          go_wp2
          go_ret
          exact ⟨rfl, hbeq10⟩
      · have cf3 := cS.out A _ _ _ (M) w2 hb2 HD_2.out (by have := HF.out.2; omega) (by omega)
        go_wp2_with fail
        refine cf3.mono ?_; rintro r wf3 ⟨dv, er, rfl, -, y1, bf3⟩
        have hbf3 := hb2.trans (bf3.mono hb2.size)
        have HD_f3 := Hid.mk8 (HD_2.out.below bf3)
        obtain ⟨rfl, rfl⟩ := y1 hfM
        clear cf3 bf3 hb2 HD_2 y1
        have cf4 := cS.out A _ _ _ (M + N) wf3 hbf3 HD_f3.out (by have := HF.out.2; omega) (by omega)
        go_wp2_with fail
        refine cf4.mono ?_; rintro r wf4 ⟨dv, er, rfl, -, y1, bf4⟩
        have hbf4 := hbf3.trans (bf4.mono hbf3.size)
        have HD_f4 := Hid.mk8 (HD_f3.out.below bf4)
        obtain ⟨rfl, rfl⟩ := y1 hfit
        clear cf4 bf4 hbf3 HD_f3 y1
        clear hfit hfM hnil hff
        obtain ⟨BB, hBB⟩ : ∃ x, sumB A = x := ⟨_, rfl⟩
        obtain ⟨RR, hRR⟩ : ∃ x, sumR A = x := ⟨_, rfl⟩
        rw [hBB] at k1 k2 hov
        rw [hRR] at k3 k4 hov
        rcases hov with hov | ⟨hov, hov2⟩
        · clear hnn
          have cfp5 := base8_any _ _ wf4 HD_f4.out
          rw [hBB] at cfp5
          go_wp2_with fail
          refine cfp5.mono ?_; rintro r wfp5 ⟨rfl, bfp5⟩
          have hbfp5 := hbf4.trans (bfp5.mono hbf4.size)
          have HD_fp5 := Hid.mk8 (HD_f4.out.below bfp5)
          clear cfp5 bfp5 hbf4 HD_f4
          have cfp6 := cN.out 11 (by decide) wfp5 hbfp5
          rw [show errOf a 11 = errV a 10 from rfl] at cfp6
          go_wp2_with fail
          refine cfp6.mono ?_; rintro r wfp6 ⟨rfl, bfp6⟩
          have hbfp6 := hbfp5.trans (bfp6.mono hbfp5.size)
          have HD_fp6 := Hid.mk8 (HD_fp5.out.below bfp6)
          clear cfp6 bfp6 hbfp5 HD_fp5
          go_wp2
          go_ret
          exact ⟨rfl, hbfp6⟩
        · clear hnn
          have cfq5 := base8_any _ _ wf4 HD_f4.out
          rw [hBB] at cfq5
          go_wp2_with fail
          refine cfq5.mono ?_; rintro r wfq5 ⟨rfl, bfq5⟩
          have hbfq5 := hbf4.trans (bfq5.mono hbf4.size)
          have HD_fq5 := Hid.mk8 (HD_f4.out.below bfq5)
          clear cfq5 bfq5 hbf4 HD_f4
          have cfq6 := result8_any _ _ wfq5 HD_fq5.out
          rw [hRR] at cfq6
          go_wp2_with fail
          refine cfq6.mono ?_; rintro r wfq6 ⟨rfl, bfq6⟩
          have hbfq6 := hbfq5.trans (bfq6.mono hbfq5.size)
          have HD_fq6 := Hid.mk8 (HD_fq5.out.below bfq6)
          clear cfq6 bfq6 hbfq5 HD_fq5
          have cfq7 := cN.out 11 (by decide) wfq6 hbfq6
          rw [show errOf a 11 = errV a 10 from rfl] at cfq7
          go_wp2_with fail
          refine cfq7.mono ?_; rintro r wfq7 ⟨rfl, bfq7⟩
          have hbfq7 := hbfq6.trans (bfq7.mono hbfq6.size)
          have HD_fq7 := Hid.mk8 (HD_fq6.out.below bfq7)
          clear cfq7 bfq7 hbfq6 HD_fq6
          go_wp2
          go_ret
          exact ⟨rfl, hbfq7⟩
  · have hc' : canonB A = false := by simpa using hc
    obtain rfl := h0 hc'
    clear h1 h0 hc hc'
    go_wp2
    go_ret
    exact ⟨rfl, hb2⟩
end Go.Proofs.YtgimcloadjjefabGreatDoor

/- A piece cut in two; a piece taken. -/
namespace Go.Proofs.YtgimcloadjjefabGreatDoor
open Go Go.RowKit Go.Lib
set_option linter.unusedVariables false

set_option maxHeartbeats 2000000 in
set_option maxRecDepth 100000 in
theorem cut71_any {e : Op5} {m : Nat} (p : Option Addr) (l c : Nat) (w : World) (hg : opE e = 0) (hk : e.k = 1) (h1 : 1 ≤ m) (h2 : (m : Int) < len5 e) (ht : e.t.size ≤ 8388608) (hR : RN w (.slice p l c) e.A) (hl : e.A.length ≤ 2097152) :
    Calls Tryz.prog 62 #[pieceQ e (.slice p l c), .int .i64 m] w fun r w' => ∃ s1, r = .returned (.tuple #[pieceQ (hd7 e m) s1, pieceQ (tl7 e m) (.slice p l c)]) ∧ OwnA w' w.heap.size s1 e.A ∧ Below w.heap.size w w' := by
  have hi : Ins e := by
    rcases op_good hg with ⟨hi, _⟩ | ⟨_, _, h⟩ | ⟨_, _, h⟩
    · exact hi
    · omega
    · omega
  obtain ⟨hv1, hv2, hv3⟩ := valid_text e.t hi.utf
  have hlen := len5_1 hk
  rw [hlen] at h2
  have hm : m < (scs e.t.data.toList).length := by omega
  have b0 : Below w.heap.size w (w.alloc (.cells #[.slice p l c, .string e.t, .int .i64 (scs e.t.data.toList).length] 111)) := (Below.refl _ _).alloc (Nat.le_refl _) _
  have cT := cutText_any p l c e.t (scs e.t.data.toList).length e.A (scs e.t.data.toList) m _ (hR.below b0) hl hv2 hv1 (by omega) ht hv3 (by omega) (by omega)
  have q1 : ∀ s1, pieceQ (hd7 e m) s1 = .iface 111 (.agg #[s1, .string (e.t.extract 0 (pos (scs e.t.data.toList) m)), .int .i64 m]) := fun s1 => by
    have e1 : hd7 e m = headO e m := by unfold hd7; rw [if_pos hk]; rfl
    have := (ins_head hi h1 hm).2
    unfold lenO at this
    rw [if_pos (show (headO e m).k = 1 from rfl)] at this
    rw [e1, pieceQ_1 (o := headO e m) rfl, this]; rfl
  have q2 : pieceQ (tl7 e m) (.slice p l c) = .iface 111 (.agg #[.slice p l c, .string (e.t.extract (pos (scs e.t.data.toList) m) e.t.size), .int .i64 (((scs e.t.data.toList).length : Int) - m)]) := by
    have e1 : tl7 e m = tailO e m := by unfold tl7; rw [if_pos hk]; rfl
    have := (ins_tail hi hm).2
    unfold lenO at this
    rw [if_pos (show (tailO e m).k = 1 from rfl)] at this
    rw [e1, pieceQ_1 (o := tailO e m) rfl, this]
    show Value.iface _ (.agg #[_, .string (tailO e m).t, .int .i64 (((scs e.t.data.toList).length - m : Nat) : Int)]) = _
    rw [Int.ofNat_sub (by omega)]; rfl
  rw [q2, pieceQ_1 hk]
  obtain ⟨X, hX⟩ : ∃ X, e.t.extract 0 (pos (scs e.t.data.toList) m) = X := ⟨_, rfl⟩
  obtain ⟨Y, hY⟩ : ∃ X, e.t.extract (pos (scs e.t.data.toList) m) e.t.size = X := ⟨_, rfl⟩
  obtain ⟨n, hn⟩ : ∃ n : Int, ((scs e.t.data.toList).length : Int) = n := ⟨_, rfl⟩
  simp only [hX, hY, hn] at cT q1 b0 ⊢
  have HQ : Hid (∀ s1, pieceQ (hd7 e m) s1 = .iface 111 (.agg #[s1, .string X, .int .i64 m])) := q1
  have a0 := as_i_i
  clear q1 q2 hX hY hn hm h2 hlen hv1 hv2 hv3 hi hg hk ht hR hl
  go_enter Tryz.func62, Tryz.ntmps62
  go_wp2_with fail
  refine cT.mono ?_; rintro r w2 ⟨p', c', rfl, own2, hb2⟩
  have HQ2 : Hid (OwnA w2 w.heap.size (.slice p' e.A.length c') e.A ∧ Below w.heap.size w w2) := ⟨own_weaken own2 b0.size, b0.trans (hb2.mono b0.size)⟩
  clear cT own2 hb2 b0
  go_wp2
  go_ret2
  exact ⟨.slice p' e.A.length c', by rw [HQ.out]; rfl, HQ2.out⟩
set_option maxHeartbeats 2000000 in
set_option maxRecDepth 100000 in
theorem cut73_any {e : Op5} {m : Int} (p : Option Addr) (l c : Nat) (w : World) (hg : opE e = 0) (hk : e.k = 3) (h1 : 1 ≤ m) (h2 : m < e.c) (hR : RN w (.slice p l c) e.A) (hl : e.A.length ≤ 2097152) :
    Calls Tryz.prog 62 #[pieceQ e (.slice p l c), .int .i64 m] w fun r w' => ∃ s1, r = .returned (.tuple #[pieceQ (hd7 e m) s1, pieceQ (tl7 e m) (.slice p l c)]) ∧ OwnA w' w.heap.size s1 e.A ∧ Below w.heap.size w w' := by
  have hc : e.c ≤ 1099511627776 := by
    rcases op_good hg with ⟨_, h⟩ | ⟨hc, _, h⟩ | ⟨_, _, h⟩
    · omega
    · exact hc.hi
    · omega
  have e1 : hd7 e m = ⟨e.k, e.t, e.v, m, e.A⟩ := if_neg (by omega)
  have e2 : tl7 e m = ⟨e.k, e.t, e.v, e.c - m, e.A⟩ := if_neg (by omega)
  have cA := fun W (hW : Below w.heap.size w W) => attributes_any (.slice p l c) e.A W (hR.below hW).row hR.nz hl
  rw [e1, e2]
  simp only [pieceQ_3 hk, pieceQ_3 (o := ⟨e.k, e.t, e.v, m, e.A⟩) hk, pieceQ_3 (o := ⟨e.k, e.t, e.v, e.c - m, e.A⟩) hk]
  obtain ⟨N, hN⟩ : ∃ N, e.c = N := ⟨_, rfl⟩
  rw [hN] at h2 hc ⊢
  have a0 := as_r_i
  have a1 := as_r_r
  clear hR hg hk e1 e2 hN
  go_enter Tryz.func62, Tryz.ntmps62
  go_upto_region 7 with fail
  go_cut [8, 9] (fun x6 x7 wx => ∃ X Y, x6 = .pointer (some ⟨X, 0, none⟩) ∧ x7 = .pointer (some ⟨Y, 0, none⟩) ∧ X ≠ Y ∧ w.heap.size < X ∧ w.heap.size < Y ∧ wx.heap[X]? = some (.cells #[.slice p l c, .int .i64 N] 73 (0, 0)) ∧ wx.heap[Y]? = some (.cells #[.slice p l c, .int .i64 N] 73 (0, 0)) ∧ Below (w.heap.size + 1) (w.alloc (.cells #[.slice p l c, .int .i64 N] 73)) wx)
  case first =>
    go_region
    all_goals (try go_wp2)
    all_goals go_meet
    all_goals obtain ⟨h1, h2, hB⟩ := box3 w _ _ _ rfl
    · exact ⟨_, _, rfl, rfl, by omega, by omega, by omega, h1, h2, hB⟩
    · exact ⟨_, _, rfl, rfl, by omega, by omega, by omega, h2, h1, hB⟩
  case rest =>
    obtain ⟨X, Y, rfl, rfl, nXY, lX, lY, hX, hY, hB⟩ := hcut
    have hb0 : Below w.heap.size w wc := ((Below.refl _ w).alloc (Nat.le_refl _) _).trans (hB.mono (by omega))
    have k0 : wc.heap[w.heap.size]? = some (.cells #[.slice p l c, .int .i64 N] 73 (0, 0)) := (hB.block _ (by omega)).trans (heap_alloc_new w _)
    have zX := (Array.getElem?_eq_some_iff.1 hX).1
    have zY := (Array.getElem?_eq_some_iff.1 hY).1
    have d0 : wc.cell? ⟨w.heap.size, 0, none⟩ = some (.slice p l c) := by rw [cell_of_heap k0]; rfl
    go_wp2_with fail
    refine (cA _ hb0).mono ?_; rintro r w3 ⟨v', rfl, own3, hb3⟩
    obtain ⟨p', c', rfl⟩ := own_slice own3
    have b3 := hb0.trans (hb3.mono hb0.size)
    have q0 := heap_below hb3 k0
    have qX := heap_below hb3 hX
    have qY := heap_below hb3 hY
    have x0 : w3.cell? ⟨X, 0, none⟩ = some (.slice p l c) := by rw [cell_of_heap qX]; rfl
    have x1 : w3.cell? ⟨X, 1, none⟩ = some (.int .i64 N) := by rw [cell_of_heap qX]; rfl
    have y0 : w3.cell? ⟨Y, 0, none⟩ = some (.slice p l c) := by rw [cell_of_heap qY]; rfl
    have y1 : w3.cell? ⟨Y, 1, none⟩ = some (.int .i64 N) := by rw [cell_of_heap qY]; rfl
    have g0 : w3.frozen? ⟨X, 0, none⟩ = false := frozen_of_heap qX 0
    have g1 : w3.frozen? ⟨X, 1, none⟩ = false := frozen_of_heap qX 1
    have k1 : w3.frozen? ⟨Y, 1, none⟩ = false := frozen_of_heap qY 1
    have n5 : ¬ X = Y := nXY
    have n6 : ¬ Y = X := Ne.symm nXY
    have z1 : w.heap.size ≤ X := by omega
    have z2 : w.heap.size ≤ Y := by omega
    have z3 : w.heap.size ≤ wc.heap.size := hb0.size
    have hs3 : Hid (OwnA w3 w.heap.size (.slice p' e.A.length c') e.A ∧ (∀ k, (Value.slice p' e.A.length c').ownBlock = some k → k ≠ X ∧ k ≠ Y)) := ⟨own_weaken own3 z3, fun k hk => by have h1 := (owns_block own3 k hk).1; omega⟩
    have HB3 : Hid (Below w.heap.size w w3) := b3
    clear q0 qX qY hX hY own3 hb3 b3 hb0 d0 k0 lX lY nXY hB zX zY cA
    go_wp2
    go_region
    go_wp2
    go_ret2
    refine ⟨_, rfl, ?_, ?_⟩
    · exact owns_same hs3.out.1 (fun k hk => by
        obtain ⟨e1, e2⟩ := hs3.out.2 k hk
        repeat (with_reducible first | (refine (heap_drw7 _ _).trans ?_) | (refine (Below.heap_setCell _ _ _ _ e1).trans ?_) | (refine (Below.heap_setCell _ _ _ _ e2).trans ?_) | rfl))
    · repeat (with_reducible first | exact HB3.out | (refine Below.drew ?_) | (refine Below.setCell ?_ (p := ⟨X, _, none⟩) z1 _) | (refine Below.setCell ?_ (p := ⟨Y, _, none⟩) z2 _))
set_option maxHeartbeats 2000000 in
set_option maxRecDepth 100000 in
theorem cut74_any {e : Op5} {m : Int} (s : Value) (w : World) (hg : opE e = 0) (hk : e.k = 4) (h1 : 1 ≤ m) (h2 : m < e.c) :
    Calls Tryz.prog 62 #[pieceQ e s, .int .i64 m] w fun r w' => ∃ s1, r = .returned (.tuple #[pieceQ (hd7 e m) s1, pieceQ (tl7 e m) s]) ∧ OwnA w' w.heap.size s1 e.A ∧ Below w.heap.size w w' := by
  have hh : e.c ≤ 1099511627776 ∧ e.A = [] := by
    rcases op_good hg with ⟨_, h⟩ | ⟨hc, _, h⟩ | ⟨hc, hA, h⟩
    · omega
    · omega
    · exact ⟨hc.hi, hA⟩
  obtain ⟨hc, hA⟩ := hh
  have e1 : hd7 e m = ⟨e.k, e.t, e.v, m, e.A⟩ := if_neg (by omega)
  have e2 : tl7 e m = ⟨e.k, e.t, e.v, e.c - m, e.A⟩ := if_neg (by omega)
  rw [e1, e2, hA]
  simp only [pieceQ_4 hk, pieceQ_4 (o := ⟨e.k, e.t, e.v, m, []⟩) hk, pieceQ_4 (o := ⟨e.k, e.t, e.v, e.c - m, []⟩) hk]
  obtain ⟨N, hN⟩ : ∃ N, e.c = N := ⟨_, rfl⟩
  rw [hN] at h2 hc ⊢
  have a0 := as_d_i
  have a1 := as_d_r
  have a2 := as_d_d
  clear hg hk e1 e2 hN hA
  go_enter Tryz.func62, Tryz.ntmps62
  go_wp2
  go_region
  go_wp2
  go_ret2
  exact ⟨.slice none 0 0, rfl, World.ownsRow_nil _ _ _ _, ((Below.refl _ _).alloc (Nat.le_refl _) _).drew⟩
theorem cut7_any {e : Op5} {m : Int} (p : Option Addr) (l c : Nat) (w : World) (hg : opE e = 0) (h1 : 1 ≤ m) (h2 : m < len5 e) (ht : e.t.size ≤ 8388608) (hR : RN w (.slice p l c) e.A) (hl : e.A.length ≤ 2097152) :
    Calls Tryz.prog 62 #[pieceQ e (.slice p l c), .int .i64 m] w fun r w' => ∃ s1, r = .returned (.tuple #[pieceQ (hd7 e m) s1, pieceQ (tl7 e m) (.slice p l c)]) ∧ OwnA w' w.heap.size s1 e.A ∧ Below w.heap.size w w' := by
  rcases kinds_of hg with hk | hk | hk | hk
  · obtain ⟨n, rfl⟩ : ∃ n : Nat, m = n := ⟨m.toNat, by omega⟩
    exact cut71_any p l c w hg hk (by omega) h2 ht hR hl
  · rw [len5_2 hk] at h2; omega
  · exact cut73_any p l c w hg hk h1 (by rwa [len5_3 (.inl hk)] at h2) hR hl
  · exact cut74_any _ w hg hk h1 (by rwa [len5_3 (.inr hk)] at h2)
end Go.Proofs.YtgimcloadjjefabGreatDoor

/- What a Walker takes. -/
namespace Go.Proofs.YtgimcloadjjefabGreatDoor
open Go Go.RowKit Go.Lib
set_option linter.unusedVariables false

theorem rn_own {w : World} {B : Nat} {s : Value} {A : List A2} (h : OwnA w B s A) : RN w s A := own_RN h
set_option maxHeartbeats 4000000 in
set_option maxRecDepth 100000 in
theorem takeNil_any {B q g : Nat} (n : Int) (w : World) (h : WkV w B q g []) (hn : 1 ≤ n ∧ n ≤ 9223372036854775807) :
    Calls Tryz.prog 54 #[.pointer (some ⟨q, 0, none⟩), .int .i64 n] w fun r w' => ∃ s, r = .returned (pieceQ (nx7 [] n).1 s) ∧ OwnA w' B s (nx7 [] n).1.A ∧ WkV w' B q g (nx7 [] n).2 ∧ FrW q g w w' := by
  have cD := doneW_any w h
  rw [decide_eq_true rfl] at cD
  have HW : Hid (∀ W, Below w.heap.size w W → WkV W B q g []) := fun W hW => h.below hW
  have hq : ∀ s, pieceQ (nx7 [] n).1 s = .iface 73 (.agg #[s, .int .i64 (min n 1099511627776)]) := fun s => pieceQ_3 rfl
  have HQ : Hid _ := hq
  obtain ⟨hn1, hn2⟩ := hn
  clear h hq
  by_cases hm : n ≤ 1099511627776
  · have hmin : Hid (min n 1099511627776 = n) := by show _ = _; omega
    go_enter Tryz.func54, Tryz.ntmps54
    go_wp2_with fail
    refine cD.mono ?_; rintro r w2 ⟨rfl, hb2⟩
    clear cD
    go_wp2
    go_ret
    exact ⟨.slice none 0 0, by rw [HQ.out, hmin.out]; rfl, World.ownsRow_nil _ _ _ _, HW.out _ hb2, FrW.of_below hb2⟩
  · have hmin : Hid (min n 1099511627776 = 1099511627776) := by show _ = _; omega
    go_enter Tryz.func54, Tryz.ntmps54
    go_wp2_with fail
    refine cD.mono ?_; rintro r w2 ⟨rfl, hb2⟩
    clear cD
    go_wp2
    go_ret
    exact ⟨.slice none 0 0, by rw [HQ.out, hmin.out]; rfl, World.ownsRow_nil _ _ _ _, HW.out _ hb2, FrW.of_below hb2⟩
set_option maxHeartbeats 4000000 in
set_option maxRecDepth 100000 in
theorem takeAll_any {B q g : Nat} {x : Op5} {r : List Op5} (n : Int) (w : World) (h : WkV w B q g (x :: r)) (hg : opE x = 0) (hn : len5 x ≤ n) (hr : r.length ≤ 8388608) :
    Calls Tryz.prog 54 #[.pointer (some ⟨q, 0, none⟩), .int .i64 n] w fun e w' => ∃ s, e = .returned (pieceQ (nx7 (x :: r) n).1 s) ∧ OwnA w' B s (nx7 (x :: r) n).1.A ∧ WkV w' B q g (nx7 (x :: r) n).2 ∧ FrW q g w w' := by
  rw [nx_all hn]
  have cD := doneW_any w h
  rw [decide_eq_false (List.cons_ne_nil _ _)] at cD
  obtain ⟨off, cap, s, c0, f0, hc, c1, f1, hs⟩ := h.read1
  have hl : (0 : Int) < ((r.length + 1 : Nat) : Int) := by omega
  obtain ⟨m, hm⟩ : ∃ m, r.length = m := ⟨_, rfl⟩
  obtain ⟨u, y, hux⟩ := pieceQ_if x s
  have HU : Hid (pieceQ x s = .iface u y) := hux
  have HM : Hid (r.length = m) := hm
  have HC : Hid (w.cell? ⟨q, 0, none⟩ = some (.slice (some ⟨g, off, none⟩) (r.length + 1) cap) ∧ OwnA w B s x.A ∧ WkV w B q g (x :: r)) := ⟨c0, hs, h⟩
  have hnn : Hid (len5 x ≤ n) := hn
  rw [hux] at c1
  rw [hm] at c0 hl hc hr
  obtain ⟨L, hL⟩ : ∃ L, len5 x = L := ⟨_, rfl⟩
  have HL : Hid (len5 x = L) := hL
  rw [hL] at hn
  have hge : L ≤ n := hn
  have hne : q ≠ g := h.ne
  have hne2 : g ≠ q := Ne.symm hne
  clear h hux hm hs hn hL
  go_enter Tryz.func54, Tryz.ntmps54
  go_wp2_with fail
  refine cD.mono ?_; rintro r' w2 ⟨rfl, hb2⟩
  have d0 := (hb2.cell (lt_of_cell c0)).trans c0
  have d1 := (hb2.cell (lt_of_cell c1)).trans c1
  have e0 := (hb2.frozen (lt_of_cell c0)).trans f0
  have HB2 : Hid (Below w.heap.size w w2) := hb2
  clear cD c0 c1 f0 f1 hb2
  go_wp2_with (refine wpList_lenP rfl (.tmp 21) rfl x s HU.out.symm hg ?_; rw [HL.out]; intro w3 hb3; have d0' := (hb3.cell (lt_of_cell d0)).trans d0; have e0' := (hb3.frozen (lt_of_cell d0)).trans e0; clear d0 e0)
  all_goals
    have H3 : WkV w3 B q g (x :: r) := (HC.out.2.2.below HB2.out).below hb3
    have C3 : w3.cell? ⟨q, 0, none⟩ = some (.slice (some ⟨g, off, none⟩) (r.length + 1) cap) := by rw [HM.out]; exact d0'
    have O3 : OwnA w3 B s x.A := owns_below (owns_below HC.out.2.1 HB2.out) hb3
    have F3 : FrW q g w w3 := (FrW.of_below HB2.out).trans (FrW.of_below hb3)
  · have hr0 : r = [] := List.eq_nil_of_length_eq_zero (by have := HM.out; omega)
    have hm0 : m = 0 := by omega
    subst hr0
    obtain ⟨a1, a2⟩ := H3.drop (p' := some ⟨g, off, none⟩) (c' := 0) C3 (Nat.zero_le _) (fun h => absurd rfl h)
    subst hm0
    go_ret
    exact ⟨s, by rw [HU.out]; rfl, keepA_own O3 a2.keepA, a1, F3.trans a2⟩
  · obtain ⟨a1, a2⟩ := H3.drop (p' := some ⟨g, off + 1, none⟩) (c' := cap - 1) C3 (by rw [HM.out]; omega) (fun _ => rfl)
    rw [HM.out] at a1 a2
    go_ret
    exact ⟨s, by rw [HU.out]; rfl, keepA_own O3 a2.keepA, a1, F3.trans a2⟩
set_option maxHeartbeats 4000000 in
set_option maxRecDepth 100000 in
theorem takePart_any {B q g : Nat} {x : Op5} {r : List Op5} (n : Int) (w : World) (h : WkV w B q g (x :: r)) (hg : opE x = 0) (h1 : 1 ≤ n) (hn : ¬ len5 x ≤ n) (ht : x.t.size ≤ 8388608) (hA : x.A.length ≤ 2097152) :
    Calls Tryz.prog 54 #[.pointer (some ⟨q, 0, none⟩), .int .i64 n] w fun e w' => ∃ s, e = .returned (pieceQ (nx7 (x :: r) n).1 s) ∧ OwnA w' B s (nx7 (x :: r) n).1.A ∧ WkV w' B q g (nx7 (x :: r) n).2 ∧ FrW q g w w' := by
  rw [nx_part hn]
  have cx := cut7 hg h1 (by omega)
  have cD := doneW_any w h
  rw [decide_eq_false (List.cons_ne_nil _ _)] at cD
  obtain ⟨off, cap, s, c0, f0, hc, c1, f1, hs⟩ := h.read1
  obtain ⟨ps, cs, rfl⟩ := own_slice hs
  have cC := fun W (hW : Below w.heap.size w W) => cut7_any ps x.A.length cs W hg h1 (by omega) ht (own_RN (owns_below hs hW)) hA
  have hl : (0 : Int) < ((r.length + 1 : Nat) : Int) := by omega
  obtain ⟨m, hm⟩ : ∃ m, r.length = m := ⟨_, rfl⟩
  have HM : Hid (r.length = m) := hm
  obtain ⟨u, y, hux⟩ := pieceQ_if x (.slice ps x.A.length cs)
  have HU : Hid (pieceQ x (.slice ps x.A.length cs) = .iface u y) := hux
  obtain ⟨ut, yt, hut⟩ := pieceQ_if (tl7 x n) (.slice ps x.A.length cs)
  have HT : Hid (pieceQ (tl7 x n) (.slice ps x.A.length cs) = .iface ut yt) := hut
  have HX : Hid ((hd7 x n).A = x.A ∧ (tl7 x n).A = x.A) := ⟨cx.hA, cx.tA⟩
  have HC : Hid (w.cell? ⟨q, 0, none⟩ = some (.slice (some ⟨g, off, none⟩) (r.length + 1) cap) ∧ OwnA w B (.slice ps x.A.length cs) x.A ∧ WkV w B q g (x :: r)) := ⟨c0, hs, h⟩
  rw [hux] at c1
  simp only [hux, hut] at cC
  rw [hm] at c0 hl hc
  obtain ⟨L, hL⟩ : ∃ L, len5 x = L := ⟨_, rfl⟩
  have HL : Hid (len5 x = L) := hL
  rw [hL] at hn
  have hge : ¬ L ≤ n := hn
  have hne : q ≠ g := h.ne
  have hne2 : g ≠ q := Ne.symm hne
  have hB : B ≤ w.heap.size := by have := h.lq; have := h.lt; omega
  clear h hux hm hs hn hL hut cx
  go_enter Tryz.func54, Tryz.ntmps54
  go_wp2_with fail
  refine cD.mono ?_; rintro r' w2 ⟨rfl, hb2⟩
  have d0 := (hb2.cell (lt_of_cell c0)).trans c0
  have d1 := (hb2.cell (lt_of_cell c1)).trans c1
  have e1 := (hb2.frozen (lt_of_cell c1)).trans f1
  have HB2 : Hid (Below w.heap.size w w2) := hb2
  clear cD c0 c1 f0 f1 hb2
  go_wp2_with (refine wpList_lenP rfl (.tmp 21) rfl x (.slice ps x.A.length cs) HU.out.symm hg ?_; rw [HL.out]; intro w3 hb3; have d0' := (hb3.cell (lt_of_cell d0)).trans d0; have d1' := (hb3.cell (lt_of_cell d1)).trans d1; have e1' := (hb3.frozen (lt_of_cell d1)).trans e1; have b3 := HB2.out.trans (hb3.mono HB2.out.size); clear d0 d1 e1 hb3)
  refine (cC _ b3).mono ?_; rintro r' w4 ⟨s1, rfl, own4, hb4⟩
  obtain ⟨uh, yh, huh⟩ := pieceQ_if (hd7 x n) s1
  have HH : Hid (pieceQ (hd7 x n) s1 = .iface uh yh) := huh
  rw [huh]
  have d0 := (hb4.cell (lt_of_cell d0')).trans d0'
  have d1 := (hb4.cell (lt_of_cell d1')).trans d1'
  have e1 := (hb4.frozen (lt_of_cell d1')).trans e1'
  have b4 := b3.trans (hb4.mono b3.size)
  have H4 : Hid (WkV w4 B q g (x :: r) ∧ OwnA w4 B (.slice ps x.A.length cs) x.A ∧ OwnA w4 B s1 x.A ∧ FrW q g w w4) := ⟨HC.out.2.2.below b4, owns_below HC.out.2.1 b4, own_weaken own4 (Nat.le_trans hB b3.size), FrW.of_below b4⟩
  clear cC huh own4 hb4 b3 b4 d0' d1' e1' hB
  go_wp2
  have C4 : w4.cell? ⟨q, 0, none⟩ = some (.slice (some ⟨g, off, none⟩) (r.length + 1) cap) := by rw [HM.out]; exact d0
  go_ret
  obtain ⟨g1, g2, g3, g4⟩ := H4.out
  obtain ⟨a1, a2⟩ := g1.put (x' := tl7 x n) (s' := .slice ps x.A.length cs) C4 (by rw [HX.out.2]; exact g2)
  rw [HT.out] at a1 a2
  exact ⟨s1, by rw [HH.out]; rfl, by rw [HX.out.1]; exact keepA_own g3 a2.keepA, a1, g4.trans a2⟩
theorem take_any {B q g : Nat} {R : List Op5} {N T K : Nat} (n : Int) (w : World) (h : WkV w B q g R) (hR : Rst R N T K) (hT : T ≤ 8388608) (hK : K ≤ 2097152) (hN : N ≤ 8388608) (hn : 1 ≤ n ∧ n ≤ 9223372036854775807) :
    Calls Tryz.prog 54 #[.pointer (some ⟨q, 0, none⟩), .int .i64 n] w fun e w' => ∃ s, e = .returned (pieceQ (nx7 R n).1 s) ∧ OwnA w' B s (nx7 R n).1.A ∧ WkV w' B q g (nx7 R n).2 ∧ FrW q g w w' := by
  cases R with
  | nil => exact takeNil_any n w h hn
  | cons x r =>
    have hx := hR.good x (List.mem_cons_self ..)
    by_cases hl : len5 x ≤ n
    · exact takeAll_any n w h hx hl (by have := hR.len; simp at this; omega)
    · exact takePart_any n w h hx hn.1 hl (Nat.le_trans (hR.size x (List.mem_cons_self ..)) hT) (Nat.le_trans (hR.attr x (List.mem_cons_self ..)) hK)
end Go.Proofs.YtgimcloadjjefabGreatDoor

/- Next and Rest of a Walker. -/
namespace Go.Proofs.YtgimcloadjjefabGreatDoor
open Go Go.RowKit Go.Lib
set_option linter.unusedVariables false

set_option maxHeartbeats 2000000 in
set_option maxRecDepth 100000 in
theorem nextNo_any {I : List Nat} {a : Nat → Addr} (q : Nat) (n : Int) (w : World) (hI : 11 ∈ I) (hS : Std I a w) (hn : n < 1) :
    Calls Tryz.prog 40 #[.pointer (some ⟨q, 0, none⟩), .int .i64 n] w fun e w' => e = .returned (.tuple #[.nilIface, errV a 11]) ∧ Below w.heap.size w w' := by
  have c0 := hS.er.cell 11 hI
  have e0 : gE 11 = 1 := rfl
  rw [e0] at c0
  clear hS hI e0
  go_enter Tryz.func40, Tryz.ntmps40
  go_wp2
  go_quiet (fail)
  go_wp2
  go_ret2
  exact ⟨rfl, below_drewN (Below.refl _ _) _⟩
set_option maxHeartbeats 2000000 in
set_option maxRecDepth 100000 in
theorem nextW_any {B q g : Nat} {R : List Op5} {N T K : Nat} (n : Int) (w : World) (h : WkV w B q g R) (hR : Rst R N T K) (hT : T ≤ 8388608) (hK : K ≤ 2097152) (hN : N ≤ 8388608) (hn : 1 ≤ n ∧ n ≤ 9223372036854775807) :
    Calls Tryz.prog 40 #[.pointer (some ⟨q, 0, none⟩), .int .i64 n] w fun e w' => ∃ s, e = .returned (.tuple #[pieceQ (nx7 R n).1 s, .nilIface]) ∧ OwnA w' B s (nx7 R n).1.A ∧ WkV w' B q g (nx7 R n).2 ∧ FrW q g w w' := by
  have cT := take_any n w h hR hT hK hN hn
  have hn1 : ¬ n < 1 := by omega
  obtain ⟨P, hP⟩ : ∃ P, (nx7 R n).1 = P := ⟨_, rfl⟩
  rw [hP] at cT ⊢
  clear h hR hP
  go_enter Tryz.func40, Tryz.ntmps40
  go_wp2_with fail
  refine cT.mono ?_; rintro r w2 ⟨s, rfl, own2, h2, f2⟩
  obtain ⟨u, x, hux⟩ := pieceQ_if P s
  have HU : Hid (pieceQ P s = .iface u x) := hux
  have HW : Hid (OwnA w2 B s P.A ∧ WkV w2 B q g (nx7 R n).2 ∧ FrW q g w w2) := ⟨own2, h2, f2⟩
  rw [hux]
  clear cT own2 h2 f2 hux
  go_wp2
  go_ret2
  exact ⟨s, by rw [HU.out]; rfl, HW.out⟩
/-- What a Walker's row tells, one by one. -/
theorem WkV.row {w : World} {B q g : Nat} {R : List Op5} (h : WkV w B q g R) : ∃ p cap, w.cell? ⟨q, 0, none⟩ = some (.slice p R.length cap) ∧ R.length ≤ cap ∧ ∀ j, j < R.length → ∃ off e s, p = some ⟨g, off, none⟩ ∧ R[j]? = some e ∧ w.cell? ⟨g, off + j, none⟩ = some (pieceQ e s) ∧ OwnA w B s e.A := by
  obtain ⟨_, _, _, p, cap, h4, h5, h6⟩ := h
  refine ⟨p, cap, by rw [cell_of_heap h4]; rfl, h5, fun j hj => ?_⟩
  obtain ⟨off, cs, e, hgo, hr⟩ := h6 (fun h0 => by rw [h0] at hj; simp at hj)
  obtain ⟨s, a1, a2⟩ := hr j R[j] (List.getElem?_eq_getElem hj)
  exact ⟨off, R[j], s, e, List.getElem?_eq_getElem hj, by rw [cell_of_heap hgo]; exact a1, a2⟩
end Go.Proofs.YtgimcloadjjefabGreatDoor

/- measure: take: the next cells of a Walker, as pieces. -/
namespace Go.Proofs.YtgimcloadjjefabGreatDoor
open Go Go.RowKit Go.Lib
set_option linter.unusedVariables false

theorem frw_own {q g M : Nat} {w w' : World} {v : Value} {P : List Value} (f : FrW q g w w') (h : OwnI w M v P) (hq : q < M) (hg : g < M) : OwnI w' M v P :=
  owns_same h fun b e => by
    obtain ⟨h1, cs, h2⟩ := owns_block h b e
    rw [f.kept b _ h2 (.inr ⟨by omega, by omega⟩), h2]
theorem WkV.same8 {w w' : World} {B q g : Nat} {R : List Op5} (h : WkV w B q g R) (hq : ∀ o, w.heap[q]? = some o → w'.heap[q]? = some o) (hg : R ≠ [] → ∀ o, w.heap[g]? = some o → w'.heap[g]? = some o) (hk : KeepA w w') : WkV w' B q g R := by
  obtain ⟨h1, h2, h3, p, cap, h4, h5, h6⟩ := h
  refine ⟨h1, h2, h3, p, cap, hq _ h4, h5, fun h0 => ?_⟩
  obtain ⟨off, cs, e, hgo, hr⟩ := h6 h0
  refine ⟨off, cs, e, hg h0 _ hgo, fun j x hx => ?_⟩
  obtain ⟨s, a1, a2⟩ := hr j x hx
  exact ⟨s, a1, keepA_own a2 hk⟩
theorem tk_step {R : List Op5} {N T K : Nat} (h : Rst R N T K) (h0 : R ≠ []) {n : Int} (h1 : 1 ≤ n) : (left7 R ≤ n → len5 (nx7 R n).1 = left7 R ∧ (nx7 R n).1.t.size + txtS (nx7 R n).2 ≤ txtS R ∧ (nx7 R n).2.length + 1 = R.length) ∧ (¬ left7 R ≤ n → len5 (nx7 R n).1 = n ∧ (nx7 R n).1.t.size + txtS (nx7 R n).2 ≤ txtS R + T ∧ (nx7 R n).2.length = R.length) := by
  cases R with
  | nil => exact absurd rfl h0
  | cons x r =>
    have hx := h.good x (List.mem_cons_self ..)
    refine ⟨fun hl => ?_, fun hl => ?_⟩
    · have e : nx7 (x :: r) n = (x, r) := nx_all hl
      rw [e]
      exact ⟨rfl, by rw [txtS_cons]; exact Nat.le_refl _, by simp⟩
    · have hl' : ¬ len5 x ≤ n := hl
      have e : nx7 (x :: r) n = (hd7 x n, tl7 x n :: r) := nx_part hl'
      have c := cut7 hx h1 (by omega)
      have := c.hz
      have := c.tz
      have := h.txt
      rw [e]
      refine ⟨c.hl, ?_, by simp⟩
      show (hd7 x n).t.size + txtS (tl7 x n :: r) ≤ _
      rw [txtS_cons] at *
      rw [txtS_cons]
      omega
theorem units_nil_len {R : List Op5} {m : Int} (h : m ≤ ((units R).length : Int)) (h1 : 1 ≤ m) : R ≠ [] := fun e => by subst e; simp [units] at h; omega
/-- What take has behind it. -/
structure Tk8 (w wr : World) (B q g : Nat) (R : List Op5) (N T K : Nat) (n m : Int) (P R' : List Op5) : Prop where
  wk : WkV wr B q g R'
  rst : Rst R' N T K
  un : units R = units P ++ units R'
  len : m + ((units P).length : Int) = n
  few : m ≤ ((units R').length : Int)
  good : ∀ o ∈ P, opE o = 0 ∧ FitA o
  fr : FrW q g w wr
  ne : R' ≠ [] → R ≠ []
  cnt : (txtS P + txtS R' ≤ txtS R ∧ P.length + R'.length ≤ R.length) ∨ (m = 0 ∧ txtS P + txtS R' ≤ txtS R + T ∧ P.length + R'.length ≤ R.length + 1)
theorem Tk8.step {w wr w8 : World} {B q g : Nat} {R : List Op5} {N T K : Nat} {n m : Int} {P R' : List Op5} (h : Tk8 w wr B q g R N T K n m P R') (h1 : 1 ≤ m) (hk : WkV w8 B q g (nx7 R' m).2) (hf : FrW q g w w8) : Tk8 w w8 B q g R N T K n (m - len5 (nx7 R' m).1) (P ++ [(nx7 R' m).1]) (nx7 R' m).2 ∧ 1 ≤ len5 (nx7 R' m).1 ∧ len5 (nx7 R' m).1 ≤ m := by
  have h0 := units_nil_len h.few h1
  obtain ⟨p1, p2, p3, p4, p5, p6⟩ := h.rst.piece h1
  have hu := h.rst.units h1 h0
  have hl := len5_units (wel_of p1)
  have hp := len5_pos p1
  obtain ⟨s1, s2⟩ := tk_step h.rst h0 h1
  have hle : len5 (nx7 R' m).1 ≤ m := by omega
  refine ⟨⟨hk, h.rst.next h1, ?_, ?_, ?_, ?_, hf, fun _ => h.ne h0, ?_⟩, hp, hle⟩
  · rw [h.un, hu, units_append, units_one, List.append_assoc]
  · have := h.len
    rw [units_append, units_one, List.length_append]
    omega
  · have h3 := h.few
    rw [hu, List.length_append] at h3
    omega
  · intro o ho
    rcases List.mem_append.1 ho with ho | ho
    · exact h.good o ho
    · rw [List.mem_singleton.1 ho]; exact ⟨p1, p2⟩
  · have hc := h.cnt.resolve_right (by omega)
    rw [txtS_append, txtS_one, List.length_append]
    by_cases hl2 : left7 R' ≤ m
    · have := s1 hl2
      left
      simp only [List.length_singleton]
      omega
    · have := s2 hl2
      have ht := h.rst.txt
      right
      simp only [List.length_singleton]
      omega
set_option maxHeartbeats 4000000 in
set_option maxRecDepth 100000 in
theorem take8_any {B q g : Nat} {R : List Op5} {N T K : Nat} (n : Int) (w : World) (h : WkV w B q g R) (hgl : R ≠ [] → g < w.heap.size) (hR : Rst R N T K) (hT : T ≤ 4194304) (hK : K ≤ 2097152) (hN : N ≤ 4194304) (hn : 0 ≤ n ∧ n ≤ ((units R).length : Int) ∧ n ≤ 2199023255552) :
    Calls Tryz.prog 27 #[.pointer (some ⟨q, 0, none⟩), .int .i64 n] w fun r w' => ∃ v, r = .returned v ∧ ∃ P R', Tk8 w w' B q g R N T K n 0 P R' ∧ ∃ PL, OwnI w' w.heap.size v PL ∧ PieD w' B PL P := by
  have hq := h.lt
  have HB : Hid (q < w.heap.size ∧ (R ≠ [] → g < w.heap.size) ∧ B ≤ w.heap.size) := ⟨hq, hgl, by have := h.lq; omega⟩
  have HL : Hid (R.length ≤ N) := hR.len
  have H0 : Hid (Tk8 w w B q g R N T K n n [] R) := ⟨h, hR, rfl, by simp [units], hn.2.1, fun o ho => (by cases ho), FrW.refl _ _ _, id, .inl ⟨by simp [txtS], by simp⟩⟩
  have hn1 : 0 ≤ n := hn.1
  have hn2 : n ≤ 2199023255552 := hn.2.2
  clear h hgl hR hn hq
  go_enter Tryz.func27, Tryz.ntmps27
  go_wp2
  go_loopw [1, 5] (fun x1 x5 wr => ∃ (m : Int) (P R' : List Op5) (PL : List Value), x1 = .int .i64 m ∧ 0 ≤ m ∧ m ≤ 2199023255552 ∧ Hid (Tk8 w wr B q g R N T K n m P R') ∧ Hid (OwnI wr w.heap.size x5 PL ∧ PieD wr B PL P)) (fun x1 _ _ => (RowKit.intOf x1).toNat)
  case atStart => exact ⟨n, [], R, [], rfl, hn1, hn2, H0.out, World.ownsRow_nil _ _ _ _, .nil⟩
  case round =>
    clear H0 hn1 hn2
    obtain ⟨m, P, R', PL, rfl, hm0, hm2, HT, HO⟩ := hrel
    by_cases hlt : 0 < m
    · have h0 := units_nil_len HT.out.few hlt
      have cN := nextW_any m wr HT.out.wk HT.out.rst (by omega) hK (by omega) ⟨hlt, by omega⟩
      have hpc := (HT.out.rst.piece (n := m) hlt).1
      have HS : Hid (∀ w8, WkV w8 B q g (nx7 R' m).2 → FrW q g w w8 → Tk8 w w8 B q g R N T K n (m - len5 (nx7 R' m).1) (P ++ [(nx7 R' m).1]) (nx7 R' m).2 ∧ 1 ≤ len5 (nx7 R' m).1 ∧ len5 (nx7 R' m).1 ≤ m) := fun w8 => HT.out.step hlt
      have HG : Hid (g < w.heap.size) := HB.out.2.1 (HT.out.ne h0)
      have hPL : PL.length ≤ 8388608 := by
        rw [forall2_len HO.out.2]
        have := HT.out.cnt
        have := HL.out
        omega
      have HF : Hid (FrW q g w wr) := HT.out.fr
      obtain ⟨e, he⟩ : ∃ x, (nx7 R' m).1 = x := ⟨_, rfl⟩
      obtain ⟨R2, hR2⟩ : ∃ x, (nx7 R' m).2 = x := ⟨_, rfl⟩
      rw [he] at hpc cN HS
      rw [hR2] at cN HS
      clear he hR2 h0 HT
      go_wp2_with fail
      refine cN.mono ?_; rintro r w2 ⟨s, rfl, o2, k2, f2⟩
      obtain ⟨u, y, hux⟩ := pieceQ_if e s
      have HU : Hid (pieceQ e s = .iface u y) := hux
      rw [hux]
      have f02 := HF.out.trans f2
      have ba : Below w2.heap.size w2 (w2.alloc (.cells #[.iface u y] 60)) := (Below.refl _ _).alloc (Nat.le_refl _) _
      have hu6 : (w2.alloc (.cells #[.iface u y] 60)).cell? ⟨w2.heap.size, 0, none⟩ = some (.iface u y) := by simp
      have hz2 : w.heap.size ≤ w2.heap.size := f02.size
      have HO7 : Hid (OwnI (w2.alloc (.cells #[.iface u y] 60)) w.heap.size u5 PL) := owns_below (frw_own f2 HO.out.1 HB.out.1 HG.out) ba
      have HP7 : Hid (PieD (w2.alloc (.cells #[.iface u y] 60)) B (PL ++ [.iface u y]) (P ++ [e])) := forall2_append ((HO.out.2.keep f2.keepA).below ba) (.cons ⟨s, HU.out.symm, owns_below o2 ba⟩ .nil)
      have hzA : w.heap.size ≤ (w2.alloc (.cells #[.iface u y] 60)).heap.size := Nat.le_trans hz2 ba.size
      have HK7 : Hid (∀ w8, (w2.alloc (.cells #[.iface u y] 60)).grownBy w8 u5.ownBlock → Tk8 w w8 B q g R N T K n (m - len5 e) (P ++ [e]) R2 ∧ PieD w8 B (PL ++ [.iface u y]) (P ++ [e]) ∧ 1 ≤ len5 e ∧ len5 e ≤ m ∧ ∀ w9, Below w8.heap.size w8 w9 → Tk8 w w9 B q g R N T K n (m - len5 e) (P ++ [e]) R2) := fun w8 gr8 => by
        have b8 : Below w.heap.size w2 w8 := (ba.mono hz2).grown gr8 hzA (fun j hj => (owns_block HO7.out j hj).1)
        have kA := keepA_grownI HO7.out gr8
        have one : ∀ w9, Below w.heap.size w2 w9 → KeepA w2 w9 → Tk8 w w9 B q g R N T K n (m - len5 e) (P ++ [e]) R2 ∧ 1 ≤ len5 e ∧ len5 e ≤ m := fun w9 b9 k9 => by
          refine HS.out w9 (k2.same8 (fun o ho => (b9.block q HB.out.1).trans ho) (fun _ o ho => (b9.block g HG.out).trans ho) k9) ⟨b9.os.trans f02.os, b9.tape.trans f02.tape, b9.output.trans f02.output, Nat.le_trans f02.size b9.size, fun k o hk ho => ?_⟩
          exact (b9.block k (Array.getElem?_eq_some_iff.1 hk).1).trans (f02.kept k o hk ho)
        have k8 : KeepA w2 w8 := fun k cur hk => by
          have h3 := keepA_below ba k cur hk
          rw [kA k cur (h3.trans hk), h3]
        obtain ⟨t1, t2, t3⟩ := one w8 b8 k8
        refine ⟨t1, HP7.out.keep kA, t2, t3, fun w9 b9 => (one w9 (b8.trans (b9.mono (Nat.le_trans hz2 b8.size))) (fun k cur hk => ?_)).1⟩
        have h3 := k8 k cur hk
        rw [keepA_below b9 k cur (h3.trans hk), h3]
      clear cN o2 k2 f2 f02 hux HS HO HF ba
      go_wp2_with (first
        | (at_builtin; refine wpList_append_piAt rfl (.tmp 16) (.tmp 18) rfl w.heap.size u5 PL rfl HO7.out w2.heap.size 1 (.iface u y) rfl hu6 rfl hPL hzA ?_; intro v8 w8 own8 gr8 hat8; obtain ⟨-, hP8, hl1, hl2, hT8⟩ := HK7.out w8 gr8; have HO8 : Hid (OwnI w8 w.heap.size v8 (PL ++ [.iface u y]) ∧ PieD w8 B (PL ++ [.iface u y]) (P ++ [e])) := ⟨own8, hP8⟩; have HT8 : Hid _ := hT8; clear own8 gr8 hat8 HO7 HP7 HK7 hu6 hP8 hT8)
        | (refine wpList_lenP rfl (.tmp 21) rfl e s HU.out.symm hpc ?_; intro w9 b9; have HT9 := HT8.out w9 b9; have HO9 : Hid (OwnI w9 w.heap.size v8 (PL ++ [.iface u y]) ∧ PieD w9 B (PL ++ [.iface u y]) (P ++ [e])) := ⟨owns_below HO8.out.1 b9, HO8.out.2.below b9⟩; clear HT8 HO8))
      go_roundw
      case rel => exact ⟨_, _, _, _, rfl, by omega, by omega, HT9, HO9.out⟩
      case measure => simp [RowKit.intOf]; omega
    · have hm : m = 0 := by omega
      subst hm
      go_wp2
      go_ret
      exact ⟨_, rfl, P, ⟨R', HT.out⟩, PL, HO.out⟩
end Go.Proofs.YtgimcloadjjefabGreatDoor

/- measure: Slice. -/
namespace Go.Proofs.YtgimcloadjjefabGreatDoor
open Go Go.RowKit Go.Lib
set_option linter.unusedVariables false

theorem Hid.mk7' {P : Prop} (h : P) : Hid P := h
/-- Nothing but inserts. -/
def InsU (U : List U6) : Prop := ∃ l : List C5, U = l.map .ins
theorem insU_of : ∀ {U : List U6}, baseU U = 0 → InsU U
  | [], _ => ⟨[], rfl⟩
  | .ins c :: U, h => by
    have h2 : baseU U = 0 := by unfold baseU at h ⊢; simpa using h
    obtain ⟨l, hl⟩ := insU_of h2
    exact ⟨c :: l, by rw [hl]; rfl⟩
  | .keep A :: U, h => by unfold baseU at h; simp at h
  | .del :: U, h => by unfold baseU at h; simp at h
theorem InsU.append {U V : List U6} (h : InsU (U ++ V)) : InsU U ∧ InsU V := by
  obtain ⟨l, hl⟩ := h
  refine ⟨⟨l.take U.length, ?_⟩, ⟨l.drop U.length, ?_⟩⟩
  · have := congrArg (List.take U.length) hl
    rw [List.take_left, ← List.map_take] at this
    exact this
  · have := congrArg (List.drop U.length) hl
    rw [List.drop_left, ← List.map_drop] at this
    exact this
theorem InsU.nrm {U : List U6} (h : InsU U) : stripU (nrm [] 0 U) = U := by
  obtain ⟨l, rfl⟩ := h
  rw [nrm_ins0, strip_ins]
theorem InsU.sums {U : List U6} (h : InsU U) : baseU U = 0 ∧ resU U = U.length := by
  obtain ⟨l, rfl⟩ := h
  unfold baseU resU
  constructor
  · rw [countP_none]; intro u hu; obtain ⟨c, _, rfl⟩ := List.mem_map.1 hu; rfl
  · rw [countP_all]; intro u hu; obtain ⟨c, _, rfl⟩ := List.mem_map.1 hu; rfl
/-- What Slice answers. -/
def SlR (a : Nat → Addr) (w' : World) (E : List Op5) (i j : Int) (dv er : Value) : Prop :=
  (0 < sumB E → dv = .pointer none ∧ er = errV a 8) ∧
  (sumB E = 0 → (i < 0 ∨ j < i ∨ sumR E < j) → dv = .pointer none ∧ er = errV a 11) ∧
  (sumB E = 0 → ¬ (i < 0 ∨ j < i ∨ sumR E < j) → er = .nilIface ∧ ∃ L C1 C2, DlE w' C1 C2 dv L ∧ CanO L ∧ units L = ((units E).drop i.toNat).take (j - i).toNat ∧ L.length ≤ E.length + 1 ∧ txtS L ≤ 2 * txtS E)
set_option maxHeartbeats 4000000 in
set_option maxRecDepth 100000 in
theorem slice8_any {I : List Nat} {a : Nat → Addr} {B1 B2 : Nat} (v : Value) (E : List Op5) (i j : Int) (w : World) (hI : ∀ i ∈ IxO, i ∈ I) (h11 : 11 ∈ I) (hS : Std I a w) (hE : DlE w B1 B2 v E) (hc : CanO E) (hl : E.length + 1 ≤ 2097152) (ht : txtS E ≤ 2097152) (hi : -9223372036854775808 ≤ i ∧ i ≤ 9223372036854775807) (hj : -9223372036854775808 ≤ j ∧ j ≤ 9223372036854775807) :
    Calls Tryz.prog 14 #[v, .int .i64 i, .int .i64 j] w fun r w' => ∃ dv er, r = .returned (.tuple #[dv, er]) ∧ SlR a w' E i j dv er ∧ Below w.heap.size w w' := by
  have c1 := count_any8 v E w hE
  have hs := hE.sums
  have cB := fun W => cbase_any (sumK8 E) (sumI8 E) (sumD8 E) W ⟨hs.1, hs.2.2.1⟩
  have cR := fun W => cresult_any (sumK8 E) (sumI8 E) (sumD8 E) W ⟨hs.1, hs.2.1⟩
  rw [← hs.2.2.2.1] at cB
  rw [← hs.2.2.2.2] at cR
  have gO : w.cell? ⟨0, 0, none⟩ = some (errV a 8) := hS.er.cell 8 (hI 8 (by decide))
  have gR : w.cell? ⟨1, 0, none⟩ = some (errV a 11) := hS.er.cell 11 h11
  obtain ⟨q1, pv1, PL1, rfl, _⟩ := id hE.d
  have HE : Hid (DlE w B1 B2 (.pointer (some ⟨q1, 0, none⟩)) E ∧ CanO E ∧ E.length + 1 ≤ 2097152 ∧ txtS E ≤ 2097152 ∧ Std I a w) := ⟨hE, hc, hl, ht, hS⟩
  have hnn := sums_nn hE.wel
  have hff := hE.fits
  unfold Fits8 at hff
  obtain ⟨B, hB⟩ : ∃ x, sumB E = x := ⟨_, rfl⟩
  obtain ⟨R, hR⟩ : ∃ x, sumR E = x := ⟨_, rfl⟩
  obtain ⟨K, hK⟩ : ∃ x, sumK8 E = x := ⟨_, rfl⟩
  obtain ⟨J, hJ⟩ : ∃ x, sumI8 E = x := ⟨_, rfl⟩
  obtain ⟨D, hD⟩ : ∃ x, sumD8 E = x := ⟨_, rfl⟩
  have HB : Hid (sumB E = B ∧ sumR E = R) := ⟨hB, hR⟩
  rw [hB, hR] at hnn hff
  simp only [hK, hJ, hD] at c1
  simp only [hK, hJ, hD, hB] at cB
  simp only [hK, hJ, hD, hR] at cR
  unfold cnt8 at c1 cB cR
  have HI : Hid (∀ i ∈ IxO, i ∈ I) := hI
  clear hE hs hc hl ht hS hB hR hK hJ hD hI
  go_enter Tryz.func14, Tryz.ntmps14
  go_wp2_with fail
  refine c1.mono ?_; rintro r w2 ⟨rfl, b2⟩
  have c2 := cB (w2.alloc (.cells #[.int .i64 K, .int .i64 J, .int .i64 D] 50))
  have ba : Below w2.heap.size w2 (w2.alloc (.cells #[.int .i64 K, .int .i64 J, .int .i64 D] 50)) := (Below.refl _ _).alloc (Nat.le_refl _) _
  have b3 := b2.trans (ba.mono b2.size)
  have hx := heap_alloc_new w2 (.cells #[.int .i64 K, .int .i64 J, .int .i64 D] 50)
  obtain ⟨X, hX⟩ : ∃ X, w2.heap.size = X := ⟨_, rfl⟩
  go_wp2_with fail
  refine c2.mono ?_; rintro r w4 ⟨rfl, b4⟩
  have hx4 := heap_below b4 hx
  have k0 : w4.cell? ⟨w2.heap.size, 0, none⟩ = some (.int .i64 K) := by rw [cell_of_heap hx4]; rfl
  have k1 : w4.cell? ⟨w2.heap.size, 1, none⟩ = some (.int .i64 J) := by rw [cell_of_heap hx4]; rfl
  have k2 : w4.cell? ⟨w2.heap.size, 2, none⟩ = some (.int .i64 D) := by rw [cell_of_heap hx4]; rfl
  rw [hX] at k0 k1 k2
  have hb4 := b3.trans (b4.mono b3.size)
  have g4 := (hb4.cell (lt_of_cell gO)).trans gO
  have g5 := (hb4.cell (lt_of_cell gR)).trans gR
  clear c1 c2 cB b2 ba b3 b4 hx hx4 gO gR
  by_cases hB0 : 0 < B
  · have hB1 : B > 0 := hB0
    have HR : Hid (∀ W, SlR a W E i j (.pointer none) (errV a 8)) := fun W => ⟨fun _ => ⟨rfl, rfl⟩, fun h => (by have := HB.out.1; omega), fun h => (by have := HB.out.1; omega)⟩
    clear HE cR k0 k1 k2 g5
    go_wp2
    go_quiet (fail)
    go_wp2
    go_ret2
    exact ⟨_, _, rfl, HR.out _, below_drewN hb4 _⟩
  have hB1 : ¬ B > 0 := by omega
  have hBz : B = 0 := by omega
  by_cases hbad : i < 0 ∨ j < i ∨ R < j
  · have HR : Hid (∀ W, SlR a W E i j (.pointer none) (errV a 11)) := fun W => ⟨fun h => (by have := HB.out.1; omega), fun _ _ => ⟨rfl, rfl⟩, fun _ h => absurd (by have := HB.out.2; omega) h⟩
    by_cases h1 : i < 0
    · clear HE cR k0 k1 k2 g4 hbad
      go_wp2
      go_quiet (fail)
      go_wp2
      go_ret2
      exact ⟨_, _, rfl, HR.out _, below_drewN hb4 _⟩
    by_cases h2 : i > j
    · clear HE cR k0 k1 k2 g4 hbad
      go_wp2
      go_quiet (fail)
      go_wp2
      go_ret2
      exact ⟨_, _, rfl, HR.out _, below_drewN hb4 _⟩
    have h3 : j > R := by omega
    have c3 := cR w4
    clear HE cR g4 hbad
    go_wp2_with fail
    refine c3.mono ?_; rintro r w5 ⟨rfl, b5⟩
    have hb5 := hb4.trans (b5.mono hb4.size)
    have g6 := (b5.cell (lt_of_cell g5)).trans g5
    clear c3 b5 hb4 g5 k0 k1 k2
    go_wp2
    go_quiet (fail)
    go_wp2
    go_ret2
    exact ⟨_, _, rfl, HR.out _, below_drewN hb5 _⟩
  have h1 : ¬ i < 0 := by omega
  have h2 : ¬ i > j := by omega
  have h3 : ¬ j > R := by omega
  have hsub : IntKind.i64.wrap (j - i) = j - i := by rw [IntKind.wrap_i64]; omega
  obtain ⟨n, hn⟩ : ∃ n, j - i = n := ⟨_, rfl⟩
  have hins : InsU (units E) := insU_of (by have := HB.out.1; rw [sumB_units HE.out.1.wel] at this; omega)
  have hlen : ((units E).length : Int) = R := by have := HB.out.2; rw [sumR_units HE.out.1.wel, hins.sums.2] at this; exact this
  have HU : Hid (InsU (units E) ∧ ((units E).length : Int) = R ∧ 0 ≤ i ∧ i ≤ j ∧ j ≤ R ∧ R ≤ 1099511627776 ∧ j - i = n ∧ sumB E = 0) := ⟨hins, hlen, by omega, by omega, by omega, hff.2, hn, by rw [HB.out.1]; exact hBz⟩
  have hRst : Rst E E.length (txtS E) 1048576 := ⟨HE.out.1.g, HE.out.1.fit, Nat.le_refl _, fun o ho => (HE.out.1.fit o ho).n, Nat.le_refl _, HE.out.2.1.chain, HE.out.2.1.last, HE.out.1.fits.1, HE.out.1.fits.2⟩
  have HRst : Hid (Rst E E.length (txtS E) 1048576) := hRst
  have HNT : Hid (E.length ≤ 2097151 ∧ txtS E ≤ 2097152) := ⟨by have := HE.out.2.2.1; omega, HE.out.2.2.2.1⟩
  have c3 := cR w4
  rw [hn] at hsub
  clear cR g4 g5 hbad hins hlen hRst hB0 hBz hnn hff
  go_wp2_with fail
  refine c3.mono ?_; rintro r w5 ⟨rfl, b5⟩
  have hb5 := hb4.trans (b5.mono hb4.size)
  have HE5 := Hid.mk7' (HE.out.1.below hb5)
  have c5 := newW_any _ E w5 HE5.out.d HE5.out.g HE5.out.n (by have := HE5.out.len; omega)
  clear c3 b5 hb4 k0 k1 k2
  go_wp2_with fail
  refine c5.mono ?_; rintro r w6 ⟨q, g, rfl, hw6, hg6, b6⟩
  have hb6 := hb5.trans (b6.mono hb5.size)
  have c6 := take8_any i w6 hw6 hg6 HRst.out (by have := HNT.out; omega) (by decide) (by have := HNT.out; omega) ⟨HU.out.2.2.1, by have := HU.out; omega, by have := HU.out; omega⟩
  have HQ6 : Hid (w5.heap.size ≤ q ∧ w5.heap.size ≤ g ∧ w5.heap.size ≤ w6.heap.size ∧ w.heap.size ≤ w5.heap.size) := ⟨hw6.lq, hw6.lg, b6.size, hb5.size⟩
  have HG6 : Hid (E ≠ [] → g < w6.heap.size) := hg6
  clear c5 hw6 hg6 b6 hb5 HE5
  go_wp2_with fail
  refine c6.mono ?_; rintro r w7 ⟨v7, rfl, P1, R1, T1, PL1, own1, -⟩
  obtain ⟨p7, n7, rfl⟩ := own_slice own1
  have hb7 : Below w.heap.size w w7 := hb6.trans ((T1.fr.below HQ6.out.1 HQ6.out.2.1 HQ6.out.2.2.1).mono HQ6.out.2.2.2)
  have hu1 := T1.un
  have hl1 := T1.len
  have hR1 : units R1 = (units E).drop i.toNat := by
    rw [hu1, show i.toNat = (units P1).length by omega, List.drop_left]
  have hlR1 : n ≤ ((units R1).length : Int) := by
    rw [hR1, List.length_drop]
    have := HU.out
    omega
  have c7 := take8_any n w7 T1.wk (fun h => by have := HG6.out (T1.ne h); have := T1.fr.size; omega) T1.rst (by have := HNT.out; omega) (by decide) (by have := HNT.out; omega) ⟨by have := HU.out; omega, hlR1, by have := HU.out; omega⟩
  have HT1 : Hid (units R1 = (units E).drop i.toNat ∧ Rst R1 E.length (txtS E) 1048576 ∧ w6.heap.size ≤ w7.heap.size) := ⟨hR1, T1.rst, T1.fr.size⟩
  obtain ⟨m7, hm7⟩ : ∃ m, PL1.length = m := ⟨_, rfl⟩
  rw [hm7]
  clear c6 own1 hu1 hl1 hR1 hlR1 T1 hb6 hm7 HG6
  go_wp2_with fail
  refine c7.mono ?_; rintro r w8 ⟨v8, rfl, P2, R2, T2, PL2, own2, pie2⟩
  have hb8 : Below w.heap.size w w8 := hb7.trans ((T2.fr.below HQ6.out.1 HQ6.out.2.1 (Nat.le_trans HQ6.out.2.2.1 HT1.out.2.2)).mono HQ6.out.2.2.2)
  have hu2 := T2.un
  have hl2 := T2.len
  have hP2 : units P2 = ((units E).drop i.toNat).take (j - i).toNat := by
    rw [← HT1.out.1, hu2, HU.out.2.2.2.2.2.2.1, show n.toNat = (units P2).length by omega, List.take_left]
  have hiU : InsU (units P2) := by
    have h := HU.out.1
    rw [← List.take_append_drop i.toNat (units E), ← HT1.out.1, hu2] at h
    exact h.append.2.append.1
  have hg2 : ∀ o ∈ P2, opE o = 0 := fun o ho => (T2.good o ho).1
  have hw2 : ∀ o ∈ P2, Wel o := fun o ho => wel_of (hg2 o ho)
  have hfit : Fits8 P2 := by
    unfold Fits8
    rw [sumB_units hw2, sumR_units hw2, hiU.sums.1, hiU.sums.2]
    have := HU.out
    omega
  have hln0 : P2.length ≤ E.length + 1 := by have := T2.cnt; have := HT1.out.2.1.len; omega
  have htx0 : txtS P2 ≤ 2 * txtS E := by have := T2.cnt; have := HT1.out.2.1.txt; omega
  have hln : P2.length ≤ 2097152 := by have := HNT.out; omega
  have htx : txtS P2 ≤ 4194304 := by have := HNT.out; omega
  have HS8 := HE.out.2.2.2.2.below hb8
  have c8 := gath8_any v8 PL2 P2 w8 HI.out HS8 own2 pie2 hg2 (fun o ho => (T2.good o ho).2) hln (by omega)
  have HR : Hid (∀ W' C1 C2 dv, DelV W' C1 C2 dv (canonL P2) → SlR a W' E i j dv .nilIface) := fun W' C1 C2 dv hd => ⟨fun h => (by have := HU.out; omega), fun _ h => absurd h (by have := HU.out; have := HB.out; omega), fun _ _ => ⟨rfl, canonL P2, C1, C2, (dle_of hd hg2 (fun o ho => (T2.good o ho).2) hln htx hfit).1, .of hw2, by
    obtain ⟨_, _, _, h⟩ := canon_spec hw2
    rw [h, hiU.nrm, hP2], by have := (dle_of hd hg2 (fun o ho => (T2.good o ho).2) hln htx hfit).2.1; omega, by have := (dle_of hd hg2 (fun o ho => (T2.good o ho).2) hln htx hfit).2.2; omega⟩⟩
  have HFit : Hid (Fits8 P2) := hfit
  obtain ⟨p8, n8, rfl⟩ := own_slice own2
  obtain ⟨m8, hm8⟩ : ∃ m, PL2.length = m := ⟨_, rfl⟩
  rw [hm8] at c8 ⊢
  clear c7 own2 pie2 hu2 hl2 hP2 hiU hg2 hw2 hfit hln htx hln0 htx0 HS8 hb7 T2 hm8
  go_wp2_with fail
  refine c8.mono ?_; rintro r w9 ⟨dv, er, rfl, y1, -, b9⟩
  obtain ⟨rfl, hd⟩ := y1 HFit.out
  have HR9 := Hid.mk7' (HR.out _ _ _ _ hd)
  obtain ⟨q9, pv9, PL9, rfl, _⟩ := id hd
  have hb9 := hb8.trans (b9.mono hb8.size)
  clear c8 y1 hd b9 hb8 HR
  go_wp2
  go_ret2
  exact ⟨_, _, rfl, HR9.out, hb9⟩
end Go.Proofs.YtgimcloadjjefabGreatDoor

/- A document cut at two places: of all arguments vellumlaw08.MeasureCuts answers true. -/
namespace Go.Proofs.YtgimcloadjjefabGreatDoor
open Go Go.RowKit Go.Lib
set_option linter.unusedVariables false

theorem m_of8 (x m : Int) (hm : 0 < m) (hz : m ≤ 281474976710657) : ∃ k : Int, wrap64 ((IntKind.u64.wrap x).tmod m) = k ∧ 0 ≤ k ∧ k < m := by
  obtain ⟨U, hU⟩ : ∃ U, IntKind.u64.wrap x = U := ⟨_, rfl⟩
  have h0 : 0 ≤ U := by
    rw [← hU, IntKind.wrap_u64]; omega
  rw [hU]
  have h1 := Int.tmod_lt_of_pos U hm
  have h2 : 0 ≤ U.tmod m := Int.tmod_nonneg _ h0
  exact ⟨_, rfl, by unfold wrap64; omega, by unfold wrap64; omega⟩
/-- A part of a document's cells. -/
structure PtL (A L : List Op5) (i j : Int) : Prop where
  can : CanO L
  un : units L = ((units A).drop i.toNat).take (j - i).toNat
  len : L.length ≤ A.length + 1
  txt : txtS L ≤ 2 * txtS A
  base : sumB L = 0
  res : sumR L = j - i
theorem ptL_of {A L : List Op5} {i j : Int} (hA : CanO A) (h0 : sumB A = 0) (hi : 0 ≤ i) (hj : i ≤ j) (hR : j ≤ sumR A) (hc : CanO L) (hu : units L = ((units A).drop i.toNat).take (j - i).toNat) (hl : L.length ≤ A.length + 1) (ht : txtS L ≤ 2 * txtS A) : PtL A L i j := by
  have hins : InsU (units A) := insU_of (by rw [sumB_units hA.wel] at h0; omega)
  have hlen : ((units A).length : Int) = sumR A := by rw [sumR_units hA.wel, hins.sums.2]
  have hiL : InsU (units L) := by
    rw [hu]
    have h1 := hins
    rw [← List.take_append_drop i.toNat (units A)] at h1
    have h2 := h1.append.2
    rw [← List.take_append_drop (j - i).toNat ((units A).drop i.toNat)] at h2
    exact h2.append.1
  refine ⟨hc, hu, hl, ht, by rw [sumB_units hc.wel, hiL.sums.1]; rfl, ?_⟩
  rw [sumR_units hc.wel, hiL.sums.2, hu, List.length_take, List.length_drop]
  omega
theorem ins_nrm {U : List U6} (h : InsU U) : nrm [] 0 U = U := by
  obtain ⟨l, rfl⟩ := h
  exact nrm_ins0 l
theorem take_two {α : Type} (U : List α) (i j : Nat) (h : i ≤ j) : U.take i ++ (U.drop i).take (j - i) = U.take j := by
  rw [show j = i + (j - i) by omega, List.take_add, show i + (j - i) - i = j - i by omega]
/-- Three parts of a document make it again. -/
theorem three_parts {A P Q R : List Op5} {i j : Int} (hA : CanO A) (h0 : sumB A = 0) (hi : 0 ≤ i) (hj : i ≤ j) (hR : j ≤ sumR A) (hp : PtL A P 0 i) (hq : PtL A Q i j) (hr : PtL A R j (sumR A)) : cat8 (cat8 P Q) R = A := by
  have hins : InsU (units A) := insU_of (by rw [sumB_units hA.wel] at h0; omega)
  have hlen : ((units A).length : Int) = sumR A := by rw [sumR_units hA.wel, hins.sums.2]
  refine (cat_can (cat_can hp.can hq.can) hr.can).inj hA ?_
  rw [cat_units (cat_can hp.can hq.can) hr.can, cat_units hp.can hq.can, nrm_fst, hp.un, hq.un, hr.un]
  have e0 : ((0 : Int)).toNat = 0 := rfl
  rw [e0, List.drop_zero, show (i - 0).toNat = i.toNat by omega, show (j - i).toNat = j.toNat - i.toNat by omega, take_two _ _ _ (by omega), List.take_of_length_le (l := (units A).drop j.toNat) (by rw [List.length_drop]; omega), List.take_append_drop, ins_nrm hins]
/-- A part of a part. -/
theorem part_part {A Q B G : List Op5} {i j : Int} (hi : 0 ≤ i) (hj : i ≤ j) (hR : j ≤ sumR A) (hA : CanO A) (h0 : sumB A = 0) (hq : PtL A Q i j) (hb : PtL A B i (sumR A)) (hg : CanO G) (hu : units G = ((units B).drop (0 : Int).toNat).take (j - i - 0).toNat) : G = Q := by
  have hins : InsU (units A) := insU_of (by rw [sumB_units hA.wel] at h0; omega)
  have hlen : ((units A).length : Int) = sumR A := by rw [sumR_units hA.wel, hins.sums.2]
  refine hg.inj hq.can ?_
  have e0 : ((0 : Int)).toNat = 0 := rfl
  rw [hu, hq.un, hb.un, e0, List.drop_zero, List.take_take, show (j - i - 0).toNat = (j - i).toNat by omega, Nat.min_eq_left (by omega)]
theorem pq_dle {w w2 w' : World} {B1 B2 C1 C2 D1 D2 : Nat} {u v dv : Value} {E F : List Op5} (hE : DlE w B1 B2 u E) (hF : DlE w2 C1 C2 v F) (hl : E.length + F.length ≤ 2097152) (ht : txtS E + txtS F ≤ 4194304) (hf : Fits8 (E ++ F)) (hd : DelV w' D1 D2 dv (canonL (E ++ F))) : DlE w' D1 D2 dv (cat8 E F) ∧ (cat8 E F).length ≤ E.length + F.length ∧ txtS (cat8 E F) ≤ txtS E + txtS F := by
  obtain ⟨h1, h2, h3⟩ := dle_of hd (cat_bounds hE.g hF.g) (fun o ho => (List.mem_append.1 ho).elim (hE.fit o) (hF.fit o)) (by rw [List.length_append]; exact hl) (by rw [txtS_append]; exact ht) hf
  rw [List.length_append] at h2
  rw [txtS_append] at h3
  exact ⟨h1, h2, h3⟩
set_option maxHeartbeats 16000000 in
set_option maxRecDepth 100000 in
theorem measureCuts_any {I : List Nat} {a : Nat → Addr} (va : Value) (x1 x2 : Int) (A : List Op5) (w : World) (hJ : ∀ i ∈ IR8, i ∈ I) (hS : Std I a w) (ra : ReO w va A) (fA : FitL A) (lA : A.length * 6 + 1 ≤ 1048576) (tA : txtS A ≤ 1048576) (i1 : -9223372036854775808 ≤ x1 ∧ x1 ≤ 9223372036854775807) (i2 : -9223372036854775808 ≤ x2 ∧ x2 ≤ 9223372036854775807) :
    Calls Tryz.prog 4 #[va, .int .i64 x1, .int .i64 x2] w fun r w' => r = .returned (.bool true) ∧ Below w.heap.size w w' := by
  obtain ⟨hI, h11⟩ := ir8 hJ
  have cF := fixed8_any w hI h11 hS
  have cO : Hid (∀ W, Below w.heap.size w W → Calls Tryz.prog 8 #[va] W fun r w' => ∃ dv, r = .returned dv ∧ (canonB A = true → (∃ q, dv = .pointer (some ⟨q, 0, none⟩)) ∧ DlE w' W.heap.size W.heap.size dv A) ∧ (canonB A = false → dv = .pointer none) ∧ Below W.heap.size W w') := fun W hW => of8_any va A W hI (hS.below hW) (ra.below hW) fA (by omega) (by omega)
  have cS : Hid (∀ (E : List Op5) (u : Value) (B1 B2 : Nat) (i j : Int) W, Below w.heap.size w W → DlE W B1 B2 u E → CanO E → E.length + 1 ≤ 2097152 ∧ txtS E ≤ 2097152 → sumB E = 0 → (0 ≤ i ∧ i ≤ j ∧ j ≤ sumR E) → Calls Tryz.prog 14 #[u, .int .i64 i, .int .i64 j] W fun r w' => ∃ q L, r = .returned (.tuple #[.pointer (some ⟨q, 0, none⟩), .nilIface]) ∧ (∃ C1 C2, DlE w' C1 C2 (.pointer (some ⟨q, 0, none⟩)) L) ∧ PtL E L i j ∧ Below W.heap.size W w') := fun E u B1 B2 i j W hW hE hc hl h0 hij => by
    have hf := hE.fits
    unfold Fits8 at hf
    refine (slice8_any u E i j W hI h11 (hS.below hW) hE hc hl.1 hl.2 (by omega) (by omega)).mono ?_
    rintro r w' ⟨dv, er, rfl, ⟨-, -, y⟩, b⟩
    obtain ⟨rfl, L, C1, C2, hd, hcL, hu, hlL, htL⟩ := y h0 (by omega)
    obtain ⟨q, pv, PL, rfl, _⟩ := id hd.d
    exact ⟨q, L, rfl, ⟨C1, C2, hd⟩, ptL_of hc h0 hij.1 hij.2.1 hij.2.2 hcL hu hlL htL, b⟩
  have cK : Hid (∀ (E F : List Op5) (u v : Value) (B1 B2 C1 C2 : Nat) W, Below w.heap.size w W → DlE W B1 B2 u E → DlE W C1 C2 v F → E.length + F.length ≤ 2097152 → Fits8 (E ++ F) → Calls Tryz.prog 15 #[u, v] W fun r w' => ∃ q, r = .returned (.tuple #[.pointer (some ⟨q, 0, none⟩), .nilIface]) ∧ (∃ D1 D2, DelV w' D1 D2 (.pointer (some ⟨q, 0, none⟩)) (cat8 E F)) ∧ Below W.heap.size W w') := fun E F u v B1 B2 C1 C2 W hW hE hF hl hf => by
    refine (concat8_any u v E F W hI (hS.below hW) hE hF hl).mono ?_
    rintro r w' ⟨dv, er, rfl, ⟨y1, y2⟩, y3⟩
    obtain ⟨rfl, hd⟩ := y1 hf
    obtain ⟨q, pv, PL, rfl, _⟩ := id hd
    exact ⟨q, rfl, ⟨_, _, hd⟩, y3⟩
  have cI : Hid (∀ (E F : List Op5) (u v : Value) (B1 B2 : Nat) W, DlE W B1 B2 u E → ReO W v F → F.length ≤ 2097152 → (∀ e ∈ F, e.A.length ≤ 1048576) → Calls Tryz.prog 16 #[u, v] W fun r w' => r = .returned (.bool (decide (E = F))) ∧ Below W.heap.size W w') := fun E F u v B1 B2 W h1 h2 h3 h4 => is8_any u v E F W h1 h2 h3 h4
  have HA : Hid (∀ W, Below w.heap.size w W → ReO W va A) := fun W hW => ra.below hW
  have HF : Hid (FitL A ∧ A.length * 6 + 1 ≤ 1048576 ∧ txtS A ≤ 1048576) := ⟨fA, lA, tA⟩
  obtain ⟨D0, ⟨p, cap, rfl, _⟩, _⟩ := id ra
  clear hI h11 hJ hS ra fA lA tA i1 i2
  go_enter Tryz.func4, Tryz.ntmps4
  go_wp2_with fail
  refine cF.mono ?_; rintro r w1 ⟨rfl, b1⟩
  have c1 := cO.out w1 b1
  clear cF cO
  go_wp2_with fail
  refine c1.mono ?_; rintro r w2 ⟨dv, rfl, h1, h0, b2⟩
  have hb2 := b1.trans (b2.mono b1.size)
  clear c1 b1 b2
  by_cases hc : canonB A = true
  · obtain ⟨⟨q, rfl⟩, hd⟩ := h1 hc
    have HD2 := Hid.mk8 hd
    have HC := Hid.mk8 (sh_canon hc)
    clear h1 h0 hc hd
    obtain ⟨B, hB⟩ : ∃ x, sumB A = x := ⟨_, rfl⟩
    obtain ⟨R, hR⟩ : ∃ x, sumR A = x := ⟨_, rfl⟩
    have hff := HD2.out.fits
    have hnn := HD2.out.sums
    unfold Fits8 at hff
    rw [hB, hR] at hff hnn
    have hR0 : 0 ≤ R := by omega
    clear hnn
    have HBR : Hid (sumB A = B ∧ sumR A = R) := ⟨hB, hR⟩
    clear hB hR
    have c1 := doc8_any _ _ w2 HD2.out
    rw [HBR.out.1] at c1
    go_wp2_with fail
    refine c1.mono ?_; rintro r w1 ⟨rfl, b1⟩
    have hb1 := hb2.trans (b1.mono hb2.size)
    have HD_1 := Hid.mk8 (HD2.out.below b1)
    clear c1 b1 hb2 HD2
    by_cases hz : B = 0
    · have hzb : (B == 0) = true := by rw [beq_iff_eq]; exact hz
      have cy2 := result8_any _ _ w1 HD_1.out
      rw [HBR.out.2] at cy2
      go_wp2_with fail
      refine cy2.mono ?_; rintro r wy2 ⟨rfl, by2⟩
      have hby2 := hb1.trans (by2.mono hb1.size)
      have HD_y2 := Hid.mk8 (HD_1.out.below by2)
      clear cy2 by2 hb1 HD_1
      obtain ⟨M, hM, m0, m1⟩ := m_of8 x1 (R + 1) (by omega) (by omega)
      obtain ⟨N, hN, n0, n1⟩ := m_of8 x2 (R + 1) (by omega) (by omega)
      have u1 : IntKind.i64.wrap (R + 1) = R + 1 := by rw [IntKind.wrap_i64]; omega
      have u2 : IntKind.u64.wrap (R + 1) = R + 1 := by rw [IntKind.wrap_u64]; omega
      have u3 : ¬ (R + 1 = 0) := by omega
      obtain ⟨P, hP, Q, hQ, p0, pq, qR⟩ : ∃ P, min M N = P ∧ ∃ Q, max M N = Q ∧ 0 ≤ P ∧ P ≤ Q ∧ Q ≤ R := ⟨_, rfl, _, rfl, by omega, by omega, by omega⟩
      have HG : Hid (0 ≤ P ∧ P ≤ Q ∧ Q ≤ R ∧ R ≤ 1099511627776 ∧ B = 0) := ⟨p0, pq, qR, hff.2, hz⟩
      clear hz hff hR0 p0 pq qR
      go_wp2
      go_quiet (fail)
      have bq : Below wy2.heap.size wy2 (wy2.drewN nq) := below_drewN (Below.refl _ _) nq
      obtain ⟨wd, hwd⟩ : ∃ x, wy2.drewN nq = x := ⟨_, rfl⟩
      rw [hwd] at bq ⊢
      rw [hM, hN]
      clear hwd
      have hbq := hby2.trans (bq.mono hby2.size)
      have HD_q := Hid.mk8 (HD_y2.out.below bq)
      clear HD_y2
      clear bq hby2 hM hN u1 u2 u3
      have cy3 := cS.out A _ _ _ (0) (P) wd hbq HD_q.out HC.out (by have h := HF.out; exact ⟨by omega, by omega⟩) (by have h := HBR.out; have h2 := HG.out; omega) (by have h := HBR.out; have h2 := HG.out; exact ⟨by omega, by omega, by omega⟩)
      go_wp2_with fail
      try rw [hP]
      try rw [hQ]
      clear hP hQ
      refine cy3.mono ?_; rintro r wy3 ⟨qp, LP, rfl, ⟨X1, X2, hdn⟩, hpt, by3⟩
      have hby3 := hbq.trans (by3.mono hbq.size)
      have HD_y3 := Hid.mk8 (HD_q.out.below by3)
      have HPT := Hid.mk8 hpt
      clear hpt
      have HP_y3 := Hid.mk8 (hdn)
      clear cy3 by3 hbq HD_q hdn
      have cy4 := cS.out A _ _ _ (P) (Q) wy3 hby3 HD_y3.out HC.out (by have h := HF.out; exact ⟨by omega, by omega⟩) (by have h := HBR.out; have h2 := HG.out; omega) (by have h := HBR.out; have h2 := HG.out; exact ⟨by omega, by omega, by omega⟩)
      go_wp2_with fail
      refine cy4.mono ?_; rintro r wy4 ⟨qq, LQ, rfl, ⟨X1, X2, hdn⟩, hpt, by4⟩
      have hby4 := hby3.trans (by4.mono hby3.size)
      have HD_y4 := Hid.mk8 (HD_y3.out.below by4)
      have HP_y4 := Hid.mk8 (HP_y3.out.below by4)
      have HQT := Hid.mk8 hpt
      clear hpt
      have HQ_y4 := Hid.mk8 (hdn)
      clear cy4 by4 hby3 HD_y3 HP_y3 hdn
      have cy5 := cS.out A _ _ _ (Q) (R) wy4 hby4 HD_y4.out HC.out (by have h := HF.out; exact ⟨by omega, by omega⟩) (by have h := HBR.out; have h2 := HG.out; omega) (by have h := HBR.out; have h2 := HG.out; exact ⟨by omega, by omega, by omega⟩)
      go_wp2_with fail
      refine cy5.mono ?_; rintro r wy5 ⟨qr, LR, rfl, ⟨X1, X2, hdn⟩, hpt, by5⟩
      have hby5 := hby4.trans (by5.mono hby4.size)
      have HD_y5 := Hid.mk8 (HD_y4.out.below by5)
      have HP_y5 := Hid.mk8 (HP_y4.out.below by5)
      have HQ_y5 := Hid.mk8 (HQ_y4.out.below by5)
      have HRT := Hid.mk8 hpt
      clear hpt
      have HR_y5 := Hid.mk8 (hdn)
      clear cy5 by5 hby4 HD_y4 HP_y4 HQ_y4 hdn
      have e1 : sumR LP = P := by rw [HPT.out.res]; omega
      have HR3 : Hid (sumR LP = P ∧ sumR LQ = Q - P ∧ sumR LR = R - Q) := ⟨e1, HQT.out.res, HRT.out.res⟩
      clear e1
      have u4 : IntKind.i64.wrap (Q - P) = Q - P := by have h2 := HG.out; rw [IntKind.wrap_i64]; omega
      have u5 : IntKind.i64.wrap (R - Q) = R - Q := by have h2 := HG.out; rw [IntKind.wrap_i64]; omega
      have v1 : (P != P) = false := bne_self_eq_false _
      have v2 : (Q - P != Q - P) = false := bne_self_eq_false _
      have v3 : (R - Q != R - Q) = false := bne_self_eq_false _
      have cy6 := result8_any _ _ wy5 HP_y5.out
      rw [HR3.out.1] at cy6
      go_wp2_with fail
      refine cy6.mono ?_; rintro r wy6 ⟨rfl, by6⟩
      have hby6 := hby5.trans (by6.mono hby5.size)
      have HD_y6 := Hid.mk8 (HD_y5.out.below by6)
      have HP_y6 := Hid.mk8 (HP_y5.out.below by6)
      have HQ_y6 := Hid.mk8 (HQ_y5.out.below by6)
      have HR_y6 := Hid.mk8 (HR_y5.out.below by6)
      clear cy6 by6 hby5 HD_y5 HP_y5 HQ_y5 HR_y5
      have cy7 := result8_any _ _ wy6 HQ_y6.out
      rw [HR3.out.2.1] at cy7
      go_wp2_with fail
      refine cy7.mono ?_; rintro r wy7 ⟨rfl, by7⟩
      have hby7 := hby6.trans (by7.mono hby6.size)
      have HD_y7 := Hid.mk8 (HD_y6.out.below by7)
      have HP_y7 := Hid.mk8 (HP_y6.out.below by7)
      have HQ_y7 := Hid.mk8 (HQ_y6.out.below by7)
      have HR_y7 := Hid.mk8 (HR_y6.out.below by7)
      clear cy7 by7 hby6 HD_y6 HP_y6 HQ_y6 HR_y6
      have cy8 := result8_any _ _ wy7 HR_y7.out
      rw [HR3.out.2.2] at cy8
      go_wp2_with fail
      refine cy8.mono ?_; rintro r wy8 ⟨rfl, by8⟩
      have hby8 := hby7.trans (by8.mono hby7.size)
      have HD_y8 := Hid.mk8 (HD_y7.out.below by8)
      have HP_y8 := Hid.mk8 (HP_y7.out.below by8)
      have HQ_y8 := Hid.mk8 (HQ_y7.out.below by8)
      have HR_y8 := Hid.mk8 (HR_y7.out.below by8)
      clear cy8 by8 hby7 HD_y7 HP_y7 HQ_y7 HR_y7
      have hPQ : Fits8 (LP ++ LQ) := by
        have h := HR3.out; have h1 := HPT.out.base; have h2 := HQT.out.base; have h3 := HG.out
        unfold Fits8; rw [sumB_append, sumR_append]; omega
      have lPQ : LP.length + LQ.length ≤ 2097152 := by have h := HF.out; have h1 := HPT.out.len; have h2 := HQT.out.len; omega
      have tPQ : txtS LP + txtS LQ ≤ 4194304 := by have h := HF.out; have h1 := HPT.out.txt; have h2 := HQT.out.txt; omega
      have cy9 := cK.out LP LQ _ _ _ _ _ _ wy8 hby8 HP_y8.out HQ_y8.out lPQ hPQ
      go_wp2_with fail
      refine cy9.mono ?_; rintro r wy9 ⟨qc, rfl, ⟨X1, X2, hdn⟩, by9⟩
      have hby9 := hby8.trans (by9.mono hby8.size)
      have HD_y9 := Hid.mk8 (HD_y8.out.below by9)
      have HP_y9 := Hid.mk8 (HP_y8.out.below by9)
      have HQ_y9 := Hid.mk8 (HQ_y8.out.below by9)
      have HR_y9 := Hid.mk8 (HR_y8.out.below by9)
      have hpq := pq_dle HP_y9.out HQ_y9.out lPQ tPQ hPQ hdn
      have lC : (cat8 LP LQ).length + LR.length ≤ 2097152 := by have h := HF.out; have h1 := HPT.out.len; have h2 := HQT.out.len; have h3 := HRT.out.len; have h4 := hpq.2.1; omega
      have fC : Fits8 (cat8 LP LQ ++ LR) := by
        have h := HR3.out; have h1 := HPT.out.base; have h2 := HQT.out.base; have h3 := HG.out; have h4 := HRT.out.base; have h5 := cat_sums HPT.out.can HQT.out.can
        unfold Fits8; rw [sumB_append, sumR_append, h5.1, h5.2.1]; omega
      have HC2_y9 := Hid.mk8 (hpq.1)
      clear cy9 by9 hby8 HD_y8 HP_y8 HQ_y8 HR_y8 hdn hpq hPQ lPQ tPQ
      have cy10 := cK.out (cat8 LP LQ) LR _ _ _ _ _ _ wy9 hby9 HC2_y9.out HR_y9.out lC fC
      go_wp2_with fail
      refine cy10.mono ?_; rintro r wy10 ⟨qa, rfl, ⟨X1, X2, hdn⟩, by10⟩
      have hby10 := hby9.trans (by10.mono hby9.size)
      have HD_y10 := Hid.mk8 (HD_y9.out.below by10)
      have HP_y10 := Hid.mk8 (HP_y9.out.below by10)
      have HQ_y10 := Hid.mk8 (HQ_y9.out.below by10)
      have HR_y10 := Hid.mk8 (HR_y9.out.below by10)
      have HC2_y10 := Hid.mk8 (HC2_y9.out.below by10)
      have h3p : cat8 (cat8 LP LQ) LR = A := three_parts HC.out (by have h := HBR.out; have h2 := HG.out; omega) (by have h2 := HG.out; omega) (by have h2 := HG.out; omega) (by have h := HBR.out; have h2 := HG.out; omega) HPT.out HQT.out (by have h := HRT.out; rw [← HBR.out.2] at h; exact h)
      rw [h3p] at hdn
      have HA8_y10 := Hid.mk8 ((⟨hdn, HD_y10.out.g, HD_y10.out.fit, HD_y10.out.len, HD_y10.out.txt, HD_y10.out.fits⟩ : DlE wy10 _ _ _ A))
      clear cy10 by10 hby9 HD_y9 HP_y9 HQ_y9 HR_y9 HC2_y9 hdn h3p lC fC
      have cy11 := cS.out A _ _ _ (P) (R) wy10 hby10 HD_y10.out HC.out (by have h := HF.out; exact ⟨by omega, by omega⟩) (by have h := HBR.out; have h2 := HG.out; omega) (by have h := HBR.out; have h2 := HG.out; exact ⟨by omega, by omega, by omega⟩)
      go_wp2_with fail
      refine cy11.mono ?_; rintro r wy11 ⟨qb, LX, rfl, ⟨X1, X2, hdn⟩, hpt, by11⟩
      have hby11 := hby10.trans (by11.mono hby10.size)
      have HD_y11 := Hid.mk8 (HD_y10.out.below by11)
      have HQ_y11 := Hid.mk8 (HQ_y10.out.below by11)
      have HA8_y11 := Hid.mk8 (HA8_y10.out.below by11)
      have HBT := Hid.mk8 hpt
      clear hpt
      have HB_y11 := Hid.mk8 (hdn)
      clear cy11 by11 hby10 HD_y10 HQ_y10 HA8_y10 hdn
      have cy12 := cI.out A A _ (.slice p D0.length cap) _ _ wy11 HA8_y11.out (HA.out wy11 hby11) (by have := HF.out; omega) (fun e he => (HF.out.1 e he).n)
      rw [decide_eq_true rfl] at cy12
      go_wp2_with fail
      refine cy12.mono ?_; rintro r wy12 ⟨rfl, by12⟩
      have hby12 := hby11.trans (by12.mono hby11.size)
      have HD_y12 := Hid.mk8 (HD_y11.out.below by12)
      have HQ_y12 := Hid.mk8 (HQ_y11.out.below by12)
      have HA8_y12 := Hid.mk8 (HA8_y11.out.below by12)
      have HB_y12 := Hid.mk8 (HB_y11.out.below by12)
      clear cy12 by12 hby11 HD_y11 HQ_y11 HA8_y11 HB_y11
      have cy13 := cS.out LX _ _ _ 0 (Q - P) wy12 hby12 HB_y12.out HBT.out.can (by have h := HF.out; have h1 := HBT.out.len; have h2 := HBT.out.txt; exact ⟨by omega, by omega⟩) HBT.out.base (by have h := HG.out; have h1 := HBT.out.res; exact ⟨by omega, by omega, by omega⟩)
      go_wp2_with fail
      refine cy13.mono ?_; rintro r wy13 ⟨qg, LG, rfl, ⟨X1, X2, hdn⟩, hpt, by13⟩
      have hby13 := hby12.trans (by13.mono hby12.size)
      have HQ_y13 := Hid.mk8 (HQ_y12.out.below by13)
      have HB_y13 := Hid.mk8 (HB_y12.out.below by13)
      have eG : LG = LQ := part_part (by have h2 := HG.out; omega) (by have h2 := HG.out; omega) (by have h := HBR.out; have h2 := HG.out; omega) HC.out (by have h := HBR.out; have h2 := HG.out; omega) HQT.out (by have h := HBT.out; rw [← HBR.out.2] at h; exact h) hpt.can hpt.un
      clear hpt
      have HG8_y13 := Hid.mk8 (hdn)
      clear cy13 by13 hby12 HQ_y12 HB_y12 hdn
      have cy14 := ops_any _ _ wy13 HQ_y13.out.d HQ_y13.out.g HQ_y13.out.n (Nat.le_trans HQ_y13.out.len (by decide))
      go_wp2_with fail
      refine cy14.mono ?_; rintro r wy14 ⟨vo, rfl, hco, by14⟩
      have hby14 := hby13.trans (by14.mono hby13.size)
      have HQ_y14 := Hid.mk8 (HQ_y13.out.below by14)
      have HB_y14 := Hid.mk8 (HB_y13.out.below by14)
      have HG8_y14 := Hid.mk8 (HG8_y13.out.below by14)
      obtain ⟨po, no, co, rfl⟩ := co_slice hco
      have hre := hco.re
      have HV_y14 := Hid.mk8 (hre)
      clear cy14 by14 hby13 HQ_y13 HB_y13 HG8_y13 hco hre
      have cy15 := cI.out LG LQ _ _ _ _ wy14 HG8_y14.out HV_y14.out HQ_y14.out.len (fun e he => (HQ_y14.out.fit e he).n)
      rw [decide_eq_true eG] at cy15
      go_wp2_with fail
      refine cy15.mono ?_; rintro r wy15 ⟨rfl, by15⟩
      have hby15 := hby14.trans (by15.mono hby14.size)
      have HQ_y15 := Hid.mk8 (HQ_y14.out.below by15)
      have HB_y15 := Hid.mk8 (HB_y14.out.below by15)
      have HG8_y15 := Hid.mk8 (HG8_y14.out.below by15)
      have HV_y15 := Hid.mk8 (HV_y14.out.below by15)
      clear cy15 by15 hby14 HQ_y14 HB_y14 HG8_y14 HV_y14
      go_wp2
      go_ret
      exact ⟨rfl, hby15⟩
    · have hzb : (B == 0) = false := by rw [beq_eq_false_iff_ne]; exact hz
      go_wp2
      go_ret
      exact ⟨rfl, hb1⟩
  · have hc' : canonB A = false := by simpa using hc
    obtain rfl := h0 hc'
    clear h1 h0 hc hc'
    go_wp2
    go_ret
    exact ⟨rfl, hb2⟩
end Go.Proofs.YtgimcloadjjefabGreatDoor
