/- The document's Canonical. What vellumref04.copied and vellumref04.Join answer. What vellumref04.Length, Cells and Newlines answer of inserts. The document's deltas: Same, SameOp, Insert, Len. The document's deltas: Len. vellumhand.Make, Is; vellumlaw06's gone, text, large, lives. vellumlaw06.lives answers true. vellumlaw08: of, is, fixed. vellumlaw08: fixed answers true. The document's Base, Result, Inserted, Deleted, Document of layer 8. The document's deltas: push: an operation put behind others. The document's deltas: Canonical: the canonical list of operations. Canonical lists of operations in order are in order. The canonical list while it is made: sizes. The document's deltas: Canonical. -/
import Derived.Test.YtalfdjglbbmjcaaGreatDoorMgf
import Derived.Test.YtalfdjglbbmjcaaGreatDoorMga
import Derived.Deep.RegionHeld3
import Derived.Deep.DeepCutAuto
import Derived.Test.YtalfdjglbbmjcaaGreatDoorMgd
import Derived.Test.YtalfdjglbbmjcaaGreatDoorSw
import Derived.Test.YtalfdjglbbmjcaaGreatDoorMgb
import Derived.OneCell
import Derived.Test.YtalfdjglbbmjcaaGreatDoorMgc

/- The document's Canonical. -/
namespace Go.Proofs.YtalfdjglbbmjcaaGreatDoor
open Go Go.RowKit Go.Lib
set_option linter.unusedVariables false

set_option maxHeartbeats 4000000 in
set_option maxRecDepth 100000 in
theorem refCanon_any {I : List Nat} {a : Nat → Addr} (v : Value) (E : List Op5) (w : World) (hS : Std I a w) (hv : ReO w v E) (hF : FitL E) (hl : E.length ≤ 1048576) :
    Calls Tryz.prog 33 #[v] w fun r w' => r = .returned (.bool (canonB E)) ∧ Below w.heap.size w w' := by
  have c1 := refLens_any v E w hS hv hF hl
  obtain ⟨D0, hrow, hre⟩ := hv
  have hDE := forall2_len hre
  obtain ⟨n, hn⟩ : ∃ n, D0.length = n := ⟨_, rfl⟩
  obtain ⟨p, cap, rfl, hcap, hnz, hc⟩ := hrow
  rw [hn] at hcap c1 ⊢
  obtain ⟨x9, hx9⟩ : ∃ x, lensL E = x := ⟨_, rfl⟩
  rw [hx9] at c1
  obtain ⟨b9, r9, e9⟩ := x9
  simp only at c1
  have HC : Hid (∀ (j : Nat) (d : OV), D0[j]? = some d → ∃ b off, p = some ⟨b, off, none⟩ ∧ OpAt w b (off + j * 7) d) := hc
  have HN : Hid (D0.length = n ∧ E.length = n) := ⟨hn, by rw [← hDE, hn]⟩
  have hl : n ≤ 1048576 := by rw [← hn, hDE]; exact hl
  have HK : Hid (∀ (k : Nat) d d', D0[k]? = some d → D0[k + 1]? = some d' → ∃ e e', E[k]? = some e ∧ E[k + 1]? = some e' ∧ ∀ W, Below w.heap.size w W → Calls Tryz.prog 93 #[ovV d, ovV d'] W fun r w' => r = .returned (.bool (apartB e e')) ∧ Below W.heap.size W w') := fun k d d' h1 h2 => by
    obtain ⟨y, hy, r1⟩ := forall2_get hre k d h1
    obtain ⟨y', hy', r2⟩ := forall2_get hre (k + 1) d' h2
    refine ⟨y, y', hy, hy', fun W hW => ?_⟩
    rw [opV_of r1, opV_of r2]
    have h3 := (hF y (List.mem_of_getElem? hy)).n
    have h4 := (hF y' (List.mem_of_getElem? hy')).n
    exact refApart_any y y' _ _ W (r1.2.2.2.2.below hW).row (r2.2.2.2.2.below hW).row (by omega) (by omega)
  have HZ : Hid (∀ (k : Nat) d, D0[k]? = some d → ∃ e, E[k]? = some e ∧ d.1 = e.k ∧ d.2.2.2.2.2.1 = e.A.length) := fun k d h1 => by
    obtain ⟨y, hy, r1⟩ := forall2_get hre k d h1
    obtain ⟨pp, cc, hvv, _⟩ := r1.2.2.2.2.row.val
    simp only [slV, Value.slice.injEq] at hvv
    exact ⟨y, hy, r1.1, hvv.2.1⟩
  have HX : Hid ((lensL E).2.2 = e9) := by show _ = _; rw [hx9]
  clear hc hn hDE hre hnz hF hS hx9
  cases e9 with
  | succ x =>
    have hcan : Hid (canonB E = false) := by
      show canonB E = false
      unfold canonB
      rw [decide_eq_false (fun h => by have := HX.out; omega)]; rfl
    obtain ⟨z, hz⟩ : ∃ z : Int, ((x + 1 : Nat) : Int) = z := ⟨_, rfl⟩
    have hz0 : (z != 0) = true := by rw [← hz, bne_iff_ne]; omega
    rw [hz] at c1
    clear HC HN HK HZ HX hz
    go_enter Tryz.func33, Tryz.ntmps33
    go_wp2_with fail
    refine c1.mono ?_; rintro r w2 ⟨rfl, hb2⟩
    clear c1
    go_wp2
    go_ret
    exact ⟨by rw [hcan.out]; rfl, hb2⟩
  | zero =>
    have hz0 : (((0 : Nat) : Int) != 0) = false := by decide
    go_enter Tryz.func33, Tryz.ntmps33
    go_wp2_with fail
    refine c1.mono ?_; rintro r w2 ⟨rfl, hb2⟩
    clear c1
    go_wp2
    go_loopw [6] (fun i wr => ∃ (k : Nat), (k ≤ n ∨ k = 1) ∧ 1 ≤ k ∧ i = .int .i64 k ∧ Hid (∀ j x y, j + 1 < k → E[j]? = some x → E[j + 1]? = some y → apartB x y = true) ∧ Below w.heap.size w wr) (fun i _ => n + 1 - (RowKit.intOf i).toNat)
    case atStart => exact ⟨1, Or.inr rfl, Nat.le_refl _, rfl, fun j x y h => by omega, hb2⟩
    case round =>
      clear hb2
      obtain ⟨k, hm, h1k, rfl, HCh, hbw⟩ := hrel
      by_cases hlt : k < n
      · have hltI : (k : Int) < n := by omega
        obtain ⟨m, hmk⟩ : ∃ m, k = m + 1 := ⟨k - 1, by omega⟩
        have HM : Hid (k = m + 1) := hmk
        obtain ⟨d, hd⟩ : ∃ q, D0[m]? = some q := ⟨_, List.getElem?_eq_getElem (by rw [HN.out.1]; omega)⟩
        obtain ⟨d', hd'⟩ : ∃ q, D0[k]? = some q := ⟨_, List.getElem?_eq_getElem (by rw [HN.out.1]; omega)⟩
        obtain ⟨e, e', he, he', cc⟩ := HK.out m d d' hd (by rw [← hmk]; exact hd')
        obtain ⟨b, off, rfl, hin⟩ := HC.out m d hd
        obtain ⟨b', off', hbo, hin'⟩ := HC.out k d' hd'
        simp only [Option.some.injEq, Addr.mk.injEq, and_true] at hbo
        obtain ⟨rfl, rfl⟩ := hbo
        obtain ⟨c0, c1, c2, c3, c4, c5, c6⟩ := hin.below hbw
        obtain ⟨d0, d1, d2, d3, d4, d5, d6⟩ := hin'.below hbw
        have HEE : Hid (E[m]? = some e ∧ E[m + 1]? = some e') := ⟨he, he'⟩
        clear hin hin' hd hd' he he'
        obtain ⟨f, t, ⟨x, z, u⟩, cc1, p, j, c⟩ := d
        obtain ⟨f', t', ⟨x', z', u'⟩, cc1', p', j', c'⟩ := d'
        simp only [slV] at c0 c1 c2 c3 c4 c5 c6 d0 d1 d2 d3 d4 d5 d6
        simp only [ovV, ovC, slV] at cc
        have HU : Hid (∀ w', Below wr.drew.heap.size wr.drew w' → (w'.cell? ⟨b, off + m * 7, none⟩ = some (.int .i64 f) ∧ w'.cell? ⟨b, off + m * 7 + 1, none⟩ = some (.string t) ∧ w'.cell? ⟨b, off + m * 7 + 2, none⟩ = some (.int .i64 x) ∧ w'.cell? ⟨b, off + m * 7 + 3, none⟩ = some (.int .i64 z) ∧ w'.cell? ⟨b, off + m * 7 + 4, none⟩ = some (.string u) ∧ w'.cell? ⟨b, off + m * 7 + 5, none⟩ = some (.int .i64 cc1) ∧ w'.cell? ⟨b, off + m * 7 + 6, none⟩ = some (.slice p j c) ∧ w'.cell? ⟨b, off + k * 7, none⟩ = some (.int .i64 f') ∧ w'.cell? ⟨b, off + k * 7 + 1, none⟩ = some (.string t') ∧ w'.cell? ⟨b, off + k * 7 + 2, none⟩ = some (.int .i64 x') ∧ w'.cell? ⟨b, off + k * 7 + 3, none⟩ = some (.int .i64 z') ∧ w'.cell? ⟨b, off + k * 7 + 4, none⟩ = some (.string u') ∧ w'.cell? ⟨b, off + k * 7 + 5, none⟩ = some (.int .i64 cc1') ∧ w'.cell? ⟨b, off + k * 7 + 6, none⟩ = some (.slice p' j' c'))) := fun w' hb => ⟨(hb.cell (lt_of_cell (w := wr.drew) c0)).trans c0, (hb.cell (lt_of_cell (w := wr.drew) c1)).trans c1, (hb.cell (lt_of_cell (w := wr.drew) c2)).trans c2, (hb.cell (lt_of_cell (w := wr.drew) c3)).trans c3, (hb.cell (lt_of_cell (w := wr.drew) c4)).trans c4, (hb.cell (lt_of_cell (w := wr.drew) c5)).trans c5, (hb.cell (lt_of_cell (w := wr.drew) c6)).trans c6, (hb.cell (lt_of_cell (w := wr.drew) d0)).trans d0, (hb.cell (lt_of_cell (w := wr.drew) d1)).trans d1, (hb.cell (lt_of_cell (w := wr.drew) d2)).trans d2, (hb.cell (lt_of_cell (w := wr.drew) d3)).trans d3, (hb.cell (lt_of_cell (w := wr.drew) d4)).trans d4, (hb.cell (lt_of_cell (w := wr.drew) d5)).trans d5, (hb.cell (lt_of_cell (w := wr.drew) d6)).trans d6⟩
        have hz0 : w.heap.size ≤ wr.drew.heap.size := hbw.size
        obtain ⟨q, hq⟩ : ∃ q, apartB e e' = q := ⟨_, rfl⟩
        rw [hq] at cc
        have HQ : Hid (apartB e e' = q) := hq
        have hk0 : (0 : Int) ≤ (k : Int) - 1 := by omega
        have hk1 : (k : Int) - 1 < (n : Int) := by omega
        have hk2 : ((k : Int) - 1).toNat = m := by omega
        have hk3 : IntKind.i64.wrap ((k : Int) - 1) = (k : Int) - 1 := by rw [IntKind.wrap_i64]; omega
        have hk4 : k ≤ 1048576 := by omega
        have hk5 : (1 : Int) ≤ (k : Int) := by omega
        have hk6 : k - 1 = m := by omega
        have hk7 : (0 : Int) ≤ (k : Int) := by omega
        clear hq hm hmk
        cases q with
        | true =>
          have HCh2 : Hid (∀ j x y, j + 1 < k + 1 → E[j]? = some x → E[j + 1]? = some y → apartB x y = true) := fun j x y hj hx hy => by
            by_cases hjm : j = m
            · subst hjm
              obtain rfl := Option.some.inj (hx.symm.trans HEE.out.1)
              obtain rfl := Option.some.inj (hy.symm.trans HEE.out.2)
              exact HQ.out
            · exact HCh.out j x y (by have := HM.out; omega) hx hy
          go_wp2_with fail
          go_region_held3 (fun w' => (w'.cell? ⟨b, off + m * 7, none⟩ = some (.int .i64 f) ∧ w'.cell? ⟨b, off + m * 7 + 1, none⟩ = some (.string t) ∧ w'.cell? ⟨b, off + m * 7 + 2, none⟩ = some (.int .i64 x) ∧ w'.cell? ⟨b, off + m * 7 + 3, none⟩ = some (.int .i64 z) ∧ w'.cell? ⟨b, off + m * 7 + 4, none⟩ = some (.string u) ∧ w'.cell? ⟨b, off + m * 7 + 5, none⟩ = some (.int .i64 cc1) ∧ w'.cell? ⟨b, off + m * 7 + 6, none⟩ = some (.slice p j c) ∧ w'.cell? ⟨b, off + k * 7, none⟩ = some (.int .i64 f') ∧ w'.cell? ⟨b, off + k * 7 + 1, none⟩ = some (.string t') ∧ w'.cell? ⟨b, off + k * 7 + 2, none⟩ = some (.int .i64 x') ∧ w'.cell? ⟨b, off + k * 7 + 3, none⟩ = some (.int .i64 z') ∧ w'.cell? ⟨b, off + k * 7 + 4, none⟩ = some (.string u') ∧ w'.cell? ⟨b, off + k * 7 + 5, none⟩ = some (.int .i64 cc1') ∧ w'.cell? ⟨b, off + k * 7 + 6, none⟩ = some (.slice p' j' c')) ∧ Below w.heap.size w w')
            (exact ⟨by first | (with_reducible assumption) | (simp [*]; done), by first | (with_reducible assumption) | exact hbw.drew⟩)
            (first | (go_at_call 93; refine (cc _ ?_).mono ?_; (· first | assumption | exact hbw.drew | (apply And.right; assumption)); rintro r w3 ⟨rfl, b3⟩; have b4 : Below w.heap.size w w3 := (hbw.drew).trans (b3.mono hz0); have mm := HU.out _ b3))
          clear cc mm b3
          go_wp2
          go_roundw
          case rel => exact ⟨k + 1, by omega, by omega, by go_num, HCh2, b4⟩
          case measure => simp [RowKit.intOf]; omega
        | false =>
          have hcan : Hid (canonB E = false) := by
            show canonB E = false
            cases h : chainB E with
            | true => have := chain_iff.1 h m e e' HEE.out.1 HEE.out.2; rw [HQ.out] at this; cases this
            | false => unfold canonB; rw [h]; simp
          go_wp2_with fail
          go_region_held3 (fun w' => (w'.cell? ⟨b, off + m * 7, none⟩ = some (.int .i64 f) ∧ w'.cell? ⟨b, off + m * 7 + 1, none⟩ = some (.string t) ∧ w'.cell? ⟨b, off + m * 7 + 2, none⟩ = some (.int .i64 x) ∧ w'.cell? ⟨b, off + m * 7 + 3, none⟩ = some (.int .i64 z) ∧ w'.cell? ⟨b, off + m * 7 + 4, none⟩ = some (.string u) ∧ w'.cell? ⟨b, off + m * 7 + 5, none⟩ = some (.int .i64 cc1) ∧ w'.cell? ⟨b, off + m * 7 + 6, none⟩ = some (.slice p j c) ∧ w'.cell? ⟨b, off + k * 7, none⟩ = some (.int .i64 f') ∧ w'.cell? ⟨b, off + k * 7 + 1, none⟩ = some (.string t') ∧ w'.cell? ⟨b, off + k * 7 + 2, none⟩ = some (.int .i64 x') ∧ w'.cell? ⟨b, off + k * 7 + 3, none⟩ = some (.int .i64 z') ∧ w'.cell? ⟨b, off + k * 7 + 4, none⟩ = some (.string u') ∧ w'.cell? ⟨b, off + k * 7 + 5, none⟩ = some (.int .i64 cc1') ∧ w'.cell? ⟨b, off + k * 7 + 6, none⟩ = some (.slice p' j' c')) ∧ Below w.heap.size w w')
            (exact ⟨by first | (with_reducible assumption) | (simp [*]; done), by first | (with_reducible assumption) | exact hbw.drew⟩)
            (first | (go_at_call 93; refine (cc _ ?_).mono ?_; (· first | assumption | exact hbw.drew | (apply And.right; assumption)); rintro r w3 ⟨rfl, b3⟩; have b4 : Below w.heap.size w w3 := (hbw.drew).trans (b3.mono hz0); have mm := HU.out _ b3))
          clear cc mm b3
          go_wp2
          go_ret
          exact ⟨by rw [hcan.out]; rfl, b4⟩
      · have hltI : ¬ (k : Int) < n := by omega
        have HC1 : Hid (chainB E = true) := chain_iff.2 fun j x y hx hy => HCh.out j x y (by
          have := (List.getElem?_eq_some_iff.1 hy).1; rw [HN.out.2] at this; omega) hx hy
        clear HCh
        cases n with
        | zero =>
          have hcan : Hid (canonB E = true) := by
            show canonB E = true
            have : E = [] := List.eq_nil_of_length_eq_zero HN.out.2
            unfold canonB
            rw [HC1.out, decide_eq_true HX.out, this]; rfl
          go_wp2
          go_ret
          exact ⟨by rw [hcan.out]; rfl, hbw⟩
        | succ l =>
          obtain ⟨d, hd⟩ : ∃ q, D0[l]? = some q := ⟨_, List.getElem?_eq_getElem (by rw [HN.out.1]; omega)⟩
          obtain ⟨e, he, hdk, hdl⟩ := HZ.out l d hd
          obtain ⟨b, off, rfl, hin⟩ := HC.out l d hd
          obtain ⟨c0, c1, c2, c3, c4, c5, c6⟩ := hin.below hbw
          have hcan : Hid (canonB E = !plainR e) := by
            show canonB E = _
            unfold canonB lastP
            rw [HC1.out, decide_eq_true HX.out, List.getLast?_eq_getElem?, HN.out.2]
            simp only [Nat.add_sub_cancel, he]
            rfl
          obtain ⟨f, t, ⟨x, z, u⟩, cc1, p, j, c⟩ := d
          simp only [slV] at c0 c1 c2 c3 c4 c5 c6
          simp only at hdk hdl
          have hpl : Hid (plainR e = (f == 3 && j == 0)) := by
            show plainR e = _
            unfold plainR
            rw [hdk, hdl]
            cases e.A <;> simp
          have hl0 : (((l : Int) + 1) == 0) = false := by simp; omega
          have hl1 : ((l : Int) + 1 - 1) = (l : Int) := by omega
          clear he hin hd hdk hdl hm hlt
          by_cases hf : f = 3
          · subst hf
            cases j with
            | zero =>
              go_wp2
              go_ret
              exact ⟨by rw [hcan.out, hpl.out]; rfl, hbw⟩
            | succ j =>
              have hj0 : decide ((0 : Int) < ((j + 1 : Nat) : Int)) = true := decide_eq_true (by omega)
              have hj2 : decide (0 < j + 1) = true := decide_eq_true (by omega)
              go_wp2
              go_ret
              exact ⟨by rw [hcan.out, hpl.out]; rfl, hbw⟩
          · have hf0 : (f != 3) = true := by simpa using hf
            have hf1 : (f == 3) = false := by simpa using hf
            clear hf
            go_wp2
            go_ret
            exact ⟨by rw [hcan.out, hpl.out, hf1]; rfl, hbw⟩
end Go.Proofs.YtalfdjglbbmjcaaGreatDoor

/- What vellumref04.copied and vellumref04.Join answer. -/
namespace Go.Proofs.YtalfdjglbbmjcaaGreatDoor
open Go Go.RowKit Go.Lib
set_option linter.unusedVariables false

set_option maxHeartbeats 400000 in
theorem copied_any (v : Value) (A : List A2) (w : World) (hA : RN w v A) (hl : A.length ≤ 2097152) :
    Calls Tryz.prog 128 #[v] w fun r w' => ∃ v', r = .returned v' ∧ OwnA w' w.heap.size v' A ∧ Below w.heap.size w w' := by
  have b0 := (Below.refl w.heap.size w).alloc (Nat.le_refl _) (.cells #[] 160)
  have HA : Hid (RN (w.alloc (.cells #[] 160)) v A) := hA.below b0
  have oE := own_empty' w w.heap.size (Nat.le_refl _)
  clear hA
  go_enter Tryz.func128, Tryz.ntmps128
  go_wp2_with (at_builtin; refine wpList_append_row rfl (.tmp 3) (.tmp 4) rfl w.heap.size (.slice (some ⟨w.heap.size, 0, none⟩) 0 0) [] rfl oE v A rfl HA.out.row HA.out.nz (by simpa using hl) b0.size ?_; intro v9 w9 own9 gr9; have b9 := b0.grown gr9 b0.size (fun j hj => by simp only [Value.ownBlock, Option.some.injEq] at hj; omega))
  go_ret
  exact ⟨_, rfl, own9, b9⟩

end Go.Proofs.YtalfdjglbbmjcaaGreatDoor

/- What vellumref04.Length, Cells and Newlines answer of inserts. -/
namespace Go.Proofs.YtalfdjglbbmjcaaGreatDoor
open Go Go.RowKit Go.Lib
set_option linter.unusedVariables false

theorem ub10 (z : Int) (h : 128 ≤ z) (h1 : z < 256) : ¬ z.toNat.toUInt8 = 10 := fun e => by
  have := congrArg UInt8.toNat e
  rw [u8_nat z (by omega) h1] at this
  simp at this
  omega
theorem count_enc {r : Nat} (h : scal r) : (enc r).count 10 = if r = 10 then 1 else 0 := by
  have h' := h
  unfold scal at h'
  by_cases h1 : r < 128
  · rw [enc_one h1]
    by_cases h0 : r = 10
    · subst h0; rfl
    · rw [if_neg h0, List.count_eq_zero]
      intro hm
      have e := congrArg UInt8.toNat (List.mem_singleton.1 hm)
      rw [u8_nat _ (by omega) (by omega)] at e
      simp at e
      omega
  · rw [if_neg (by omega), List.count_eq_zero]
    intro hm
    by_cases h2 : r < 2048
    · rw [enc_two (by omega) h2] at hm
      simp only [List.mem_cons, List.not_mem_nil, or_false] at hm
      rcases hm with e | e <;> exact ub10 _ (by omega) (by omega) e.symm
    by_cases h3 : r < 65536
    · rw [enc_three (by omega) h3 h] at hm
      simp only [List.mem_cons, List.not_mem_nil, or_false] at hm
      rcases hm with e | e | e <;> exact ub10 _ (by omega) (by omega) e.symm
    · rw [enc_four (by omega) (by omega)] at hm
      simp only [List.mem_cons, List.not_mem_nil, or_false] at hm
      rcases hm with e | e | e | e <;> exact ub10 _ (by omega) (by omega) e.symm
theorem count_encs : ∀ (rs : List Nat), (∀ r ∈ rs, scal r) → (encs rs).count 10 = rs.countP (fun r => ((r : Nat) : Int) == 10)
  | [], _ => rfl
  | r :: rs, h => by
    rw [encs, List.count_append, count_enc (h r (by simp)), count_encs rs (fun x hx => h x (by simp [hx])), List.countP_cons]
    by_cases h0 : r = 10
    · subst h0; simp; omega
    · have : (((r : Nat) : Int) == 10) = false := by simp; omega
      rw [if_neg h0, this]
      simp
/-- How many cells of a list are newlines. -/
def newlC (L : List C5) : Nat := L.countP fun e => e.1 == 10
theorem newlC_of {o : Op5} (h : Ins o) : newlC (cellsOf o) = newlO o := by
  unfold newlC cellsOf newlO
  split
  · obtain ⟨h1, h2, _⟩ := valid_text o.t h.utf
    unfold mkC countByte
    rw [List.countP_map]
    conv => rhs; rw [h2]
    rw [count_encs _ h1]
    rfl
  · rfl
theorem newlC_le (L : List C5) : newlC L ≤ L.length := List.countP_le_length

/-- All blocks of numbers are as they were. -/
def Keep32 (w w' : World) : Prop := ∀ (k : Nat) (cur : Array Value), w.heap[k]? = some (.cells cur 21 (0, 0)) → w'.heap[k]? = w.heap[k]?
theorem keep32_below {w w' : World} (hb : Below w.heap.size w w') : Keep32 w w' := fun k cur hk => hb.block k (Array.getElem?_eq_some_iff.1 hk).1
theorem keep32_own {w w' : World} {B : Nat} {v : Value} {zs : List Int} (h : Own32 B w v zs) (hk : Keep32 w w') : Own32 B w' v zs := by
  obtain ⟨hl, h⟩ := h
  refine ⟨hl, ?_⟩
  rcases h with h | ⟨g, cap, cur, h1, h2, h3, h4⟩
  · exact Or.inl h
  · exact Or.inr ⟨g, cap, cur, h1, h2, (hk g cur h3).trans h3, h4⟩
end Go.Proofs.YtalfdjglbbmjcaaGreatDoor

/- The document's deltas: Same, SameOp, Insert, Len. -/
namespace Go.Proofs.YtalfdjglbbmjcaaGreatDoor
open Go Go.RowKit Go.Lib
set_option linter.unusedVariables false

set_option maxHeartbeats 1000000 in
theorem same6o_any (o o' : Op5) (s s' : Value) (w : World) (hA : RowA w s o.A) (hB : RowA w s' o'.A) (hl : o.A.length ≤ 4194304) (hl2 : o'.A.length ≤ 4194304) :
    Calls Tryz.prog 109 #[opV o s, opV o' s'] w fun r w' => r = .returned (.bool (decide (o = o'))) ∧ Below w.heap.size w w' := by
  have b0 := ((Below.refl w.heap.size w).alloc (Nat.le_refl _) (.cells (opC o s) 33)).alloc (by simp) (.cells (opC o' s') 33)
  have cS := from_below b0 (refSame_any s s' o.A o'.A _ (hA.below b0) (hB.below b0) (by omega) (by omega))
  obtain ⟨pa, ca, rfl, _⟩ := hA.val
  obtain ⟨pb, cb, rfl, _⟩ := hB.val
  obtain ⟨k, t, ⟨x, n, u⟩, c, A⟩ := o
  obtain ⟨k', t', ⟨x', n', u'⟩, c', A'⟩ := o'
  simp only at cS
  simp only [opC] at b0 cS
  clear hA hB hl hl2
  have gd := fun op e e' w => guard_pl op e e' (x, n, u) (x', n', u') w
  by_cases hk : k = k'
  · subst hk
    by_cases ht : t = t'
    · subst ht
      have q1 := beq_key (x := t) (y := t) true (decide_eq_true rfl)
      by_cases hv : ((x, n, u) : P3) = (x', n', u')
      · have hne := eql_pl (x, n, u) (x', n', u') true (by rw [hv, samP_self])
        by_cases hc : c = c'
        · subst hc
          have hd : decide (({ k := k, t := t, v := (x, n, u), c := c, A := A } : Op5) = { k := k, t := t, v := (x', n', u'), c := c, A := A' }) = decide (A = A') := by
            simp only [Op5.mk.injEq, true_and, hv]
          rw [hd]
          generalize decide (A = A') = R at cS ⊢
          clear hd hv
          go_enter Tryz.func109, Tryz.ntmps109
          go_wp2_with fail
          refine cS.mono ?_; rintro r w2 ⟨rfl, hb2⟩
          go_wp2
          go_ret
          exact ⟨rfl, hb2⟩
        · rw [decide_eq_false (by intro e; exact hc (congrArg Op5.c e))]
          have hcc : (c == c') = false := by simpa using hc
          clear cS hv hc
          go_enter Tryz.func109, Tryz.ntmps109
          go_wp2
          go_ret
          exact ⟨rfl, b0⟩
      · rw [decide_eq_false (by intro e; exact hv (congrArg Op5.v e))]
        have hne := eql_pl (x, n, u) (x', n', u') false (samP_ne hv)
        clear cS hv
        go_enter Tryz.func109, Tryz.ntmps109
        go_wp2
        go_ret
        exact ⟨rfl, b0⟩
    · rw [decide_eq_false (by intro e; exact ht (congrArg Op5.t e))]
      have q1 := beq_key (x := t) (y := t') false (decide_eq_false ht)
      clear cS ht gd
      go_enter Tryz.func109, Tryz.ntmps109
      go_wp2
      go_ret
      exact ⟨rfl, b0⟩
  · rw [decide_eq_false (by intro e; exact hk (congrArg Op5.k e))]
    have hkk : (k == k') = false := by simpa using hk
    clear cS hk gd
    go_enter Tryz.func109, Tryz.ntmps109
    go_wp2
    go_ret
    exact ⟨rfl, b0⟩

set_option maxHeartbeats 2000000 in
set_option maxRecDepth 100000 in
theorem same6_any (v v' : Value) (E E' : List Op5) (w : World) (h : ReO w v E) (h' : ReO w v' E') (hl : E.length ≤ 2097152) (hl' : E'.length ≤ 2097152) (hA : ∀ e ∈ E, e.A.length ≤ 1048576) (hA' : ∀ e ∈ E', e.A.length ≤ 1048576) :
    Calls Tryz.prog 72 #[v, v'] w fun r w' => r = .returned (.bool (decide (E = E'))) ∧ Below w.heap.size w w' := by
  obtain ⟨D, hrow, hre⟩ := h
  obtain ⟨D', hrow', hre'⟩ := h'
  have hE := forall2_len hre
  have hE' := forall2_len hre'
  obtain ⟨n, hn⟩ : ∃ n, D.length = n := ⟨_, rfl⟩
  obtain ⟨m, hm⟩ : ∃ m, D'.length = m := ⟨_, rfl⟩
  obtain ⟨pa, ca, rfl, ha, _, hca⟩ := hrow
  obtain ⟨pb, cb, rfl, hb, _, hcb⟩ := hrow'
  rw [hn] at ha hE ⊢
  rw [hm] at hb hE' ⊢
  have HN : Hid (D.length = n ∧ D'.length = m ∧ E.length = n ∧ E'.length = m) := ⟨hn, hm, hE.symm, hE'.symm⟩
  by_cases hnm : n = m
  · subst hnm
    have HA : Hid (∀ (j : Nat) (d : OV), D[j]? = some d → ∃ b off, pa = some ⟨b, off, none⟩ ∧ OpAt w b (off + j * 7) d) := hca
    have HB : Hid (∀ (j : Nat) (d : OV), D'[j]? = some d → ∃ b off, pb = some ⟨b, off, none⟩ ∧ OpAt w b (off + j * 7) d) := hcb
    have hl : n ≤ 2097152 := by omega
    have CC : Hid (∀ (k : Nat) d d', D[k]? = some d → D'[k]? = some d' → ∃ e e', E[k]? = some e ∧ E'[k]? = some e' ∧ ∀ W, Below w.heap.size w W → Calls Tryz.prog 109 #[ovV d, ovV d'] W fun r w' => r = .returned (.bool (decide (e = e'))) ∧ Below W.heap.size W w') := fun k d d' h1 h2 => by
      obtain ⟨y, hy, r1⟩ := forall2_get hre k d h1
      obtain ⟨y', hy', r2⟩ := forall2_get hre' k d' h2
      refine ⟨y, y', hy, hy', fun W hW => ?_⟩
      rw [opV_of r1, opV_of r2]
      have h3 := hA y (List.mem_of_getElem? hy)
      have h4 := hA' y' (List.mem_of_getElem? hy')
      exact same6o_any y y' _ _ W (r1.2.2.2.2.below hW).row (r2.2.2.2.2.below hW).row (by omega) (by omega)
    clear hca hcb hn hm hre hre' hE hE' hA hA' hl'
    go_enter Tryz.func72, Tryz.ntmps72
    go_wp2
    go_loopw [13] (fun i wr => ∃ (k : Nat), k ≤ n ∧ i = .int .i64 k ∧ Hid (E.take k = E'.take k) ∧ Below w.heap.size w wr) (fun i _ => n - (RowKit.intOf i).toNat)
    case atStart => exact ⟨0, Nat.zero_le _, rfl, rfl, Below.refl _ _⟩
    case round =>
      obtain ⟨k, hk, rfl, HT, hbw⟩ := hrel
      by_cases hlt : k < n
      · have hltI : (k : Int) < n := by omega
        obtain ⟨d, hd⟩ : ∃ q, D[k]? = some q := ⟨_, List.getElem?_eq_getElem (by rw [HN.out.1]; exact hlt)⟩
        obtain ⟨d', hd'⟩ : ∃ q, D'[k]? = some q := ⟨_, List.getElem?_eq_getElem (by rw [HN.out.2.1]; exact hlt)⟩
        obtain ⟨e, e', he, he', cc⟩ := CC.out k d d' hd hd'
        obtain ⟨b, off, rfl, hin⟩ := HA.out k d hd
        obtain ⟨b', off', rfl, hin'⟩ := HB.out k d' hd'
        obtain ⟨c0, c1, c2, c3, c4, c5, c6⟩ := hin.below hbw
        obtain ⟨d0, d1, d2, d3, d4, d5, d6⟩ := hin'.below hbw
        have HEE : Hid (E[k]? = some e ∧ E'[k]? = some e') := ⟨he, he'⟩
        clear hin hin' hd hd' he he'
        obtain ⟨f, t, ⟨x, z, u⟩, cc1, p, j, c⟩ := d
        obtain ⟨f', t', ⟨x', z', u'⟩, cc1', p', j', c'⟩ := d'
        simp only [slV] at c0 c1 c2 c3 c4 c5 c6 d0 d1 d2 d3 d4 d5 d6
        simp only [ovV, ovC, slV] at cc
        have HU : Hid (∀ w', Below wr.drew.heap.size wr.drew w' → (w'.cell? ⟨b, off + k * 7, none⟩ = some (.int .i64 f) ∧ w'.cell? ⟨b, off + k * 7 + 1, none⟩ = some (.string t) ∧ w'.cell? ⟨b, off + k * 7 + 2, none⟩ = some (.int .i64 x) ∧ w'.cell? ⟨b, off + k * 7 + 3, none⟩ = some (.int .i64 z) ∧ w'.cell? ⟨b, off + k * 7 + 4, none⟩ = some (.string u) ∧ w'.cell? ⟨b, off + k * 7 + 5, none⟩ = some (.int .i64 cc1) ∧ w'.cell? ⟨b, off + k * 7 + 6, none⟩ = some (.slice p j c) ∧ w'.cell? ⟨b', off' + k * 7, none⟩ = some (.int .i64 f') ∧ w'.cell? ⟨b', off' + k * 7 + 1, none⟩ = some (.string t') ∧ w'.cell? ⟨b', off' + k * 7 + 2, none⟩ = some (.int .i64 x') ∧ w'.cell? ⟨b', off' + k * 7 + 3, none⟩ = some (.int .i64 z') ∧ w'.cell? ⟨b', off' + k * 7 + 4, none⟩ = some (.string u') ∧ w'.cell? ⟨b', off' + k * 7 + 5, none⟩ = some (.int .i64 cc1') ∧ w'.cell? ⟨b', off' + k * 7 + 6, none⟩ = some (.slice p' j' c'))) := fun w' hb => ⟨(hb.cell (lt_of_cell (w := wr.drew) c0)).trans c0, (hb.cell (lt_of_cell (w := wr.drew) c1)).trans c1, (hb.cell (lt_of_cell (w := wr.drew) c2)).trans c2, (hb.cell (lt_of_cell (w := wr.drew) c3)).trans c3, (hb.cell (lt_of_cell (w := wr.drew) c4)).trans c4, (hb.cell (lt_of_cell (w := wr.drew) c5)).trans c5, (hb.cell (lt_of_cell (w := wr.drew) c6)).trans c6, (hb.cell (lt_of_cell (w := wr.drew) d0)).trans d0, (hb.cell (lt_of_cell (w := wr.drew) d1)).trans d1, (hb.cell (lt_of_cell (w := wr.drew) d2)).trans d2, (hb.cell (lt_of_cell (w := wr.drew) d3)).trans d3, (hb.cell (lt_of_cell (w := wr.drew) d4)).trans d4, (hb.cell (lt_of_cell (w := wr.drew) d5)).trans d5, (hb.cell (lt_of_cell (w := wr.drew) d6)).trans d6⟩
        have hz0 : w.heap.size ≤ wr.drew.heap.size := hbw.size
        obtain ⟨q, hq⟩ : ∃ q, decide (e = e') = q := ⟨_, rfl⟩
        rw [hq] at cc
        have HQ : Hid (decide (e = e') = q) := hq
        clear hq
        cases q with
        | true =>
          have HT2 : Hid (E.take (k + 1) = E'.take (k + 1)) := take_eq_snoc HT.out HEE.out.1 HEE.out.2 (of_decide_eq_true HQ.out)
          go_wp2_with fail
          go_region_held3 (fun w' => (w'.cell? ⟨b, off + k * 7, none⟩ = some (.int .i64 f) ∧ w'.cell? ⟨b, off + k * 7 + 1, none⟩ = some (.string t) ∧ w'.cell? ⟨b, off + k * 7 + 2, none⟩ = some (.int .i64 x) ∧ w'.cell? ⟨b, off + k * 7 + 3, none⟩ = some (.int .i64 z) ∧ w'.cell? ⟨b, off + k * 7 + 4, none⟩ = some (.string u) ∧ w'.cell? ⟨b, off + k * 7 + 5, none⟩ = some (.int .i64 cc1) ∧ w'.cell? ⟨b, off + k * 7 + 6, none⟩ = some (.slice p j c) ∧ w'.cell? ⟨b', off' + k * 7, none⟩ = some (.int .i64 f') ∧ w'.cell? ⟨b', off' + k * 7 + 1, none⟩ = some (.string t') ∧ w'.cell? ⟨b', off' + k * 7 + 2, none⟩ = some (.int .i64 x') ∧ w'.cell? ⟨b', off' + k * 7 + 3, none⟩ = some (.int .i64 z') ∧ w'.cell? ⟨b', off' + k * 7 + 4, none⟩ = some (.string u') ∧ w'.cell? ⟨b', off' + k * 7 + 5, none⟩ = some (.int .i64 cc1') ∧ w'.cell? ⟨b', off' + k * 7 + 6, none⟩ = some (.slice p' j' c')) ∧ Below w.heap.size w w')
            (exact ⟨by first | (with_reducible assumption) | (simp [*]; done), by first | (with_reducible assumption) | exact hbw.drew⟩)
            (first | (go_at_call 109; refine (cc _ ?_).mono ?_; (· first | assumption | exact hbw.drew | (apply And.right; assumption)); rintro r w3 ⟨rfl, b3⟩; have b4 : Below w.heap.size w w3 := (hbw.drew).trans (b3.mono hz0); have mm := HU.out _ b3))
          clear cc mm b3
          go_wp2
          go_roundw
          case rel => exact ⟨k + 1, by omega, by go_num, HT2, b4⟩
          case measure => simp [RowKit.intOf]; omega
        | false =>
          have hfin : Hid (decide (E = E') = false) := decide_eq_false (ne_at HEE.out.1 HEE.out.2 (of_decide_eq_false HQ.out))
          go_wp2_with fail
          go_region_held3 (fun w' => (w'.cell? ⟨b, off + k * 7, none⟩ = some (.int .i64 f) ∧ w'.cell? ⟨b, off + k * 7 + 1, none⟩ = some (.string t) ∧ w'.cell? ⟨b, off + k * 7 + 2, none⟩ = some (.int .i64 x) ∧ w'.cell? ⟨b, off + k * 7 + 3, none⟩ = some (.int .i64 z) ∧ w'.cell? ⟨b, off + k * 7 + 4, none⟩ = some (.string u) ∧ w'.cell? ⟨b, off + k * 7 + 5, none⟩ = some (.int .i64 cc1) ∧ w'.cell? ⟨b, off + k * 7 + 6, none⟩ = some (.slice p j c) ∧ w'.cell? ⟨b', off' + k * 7, none⟩ = some (.int .i64 f') ∧ w'.cell? ⟨b', off' + k * 7 + 1, none⟩ = some (.string t') ∧ w'.cell? ⟨b', off' + k * 7 + 2, none⟩ = some (.int .i64 x') ∧ w'.cell? ⟨b', off' + k * 7 + 3, none⟩ = some (.int .i64 z') ∧ w'.cell? ⟨b', off' + k * 7 + 4, none⟩ = some (.string u') ∧ w'.cell? ⟨b', off' + k * 7 + 5, none⟩ = some (.int .i64 cc1') ∧ w'.cell? ⟨b', off' + k * 7 + 6, none⟩ = some (.slice p' j' c')) ∧ Below w.heap.size w w')
            (exact ⟨by first | (with_reducible assumption) | (simp [*]; done), by first | (with_reducible assumption) | exact hbw.drew⟩)
            (first | (go_at_call 109; refine (cc _ ?_).mono ?_; (· first | assumption | exact hbw.drew | (apply And.right; assumption)); rintro r w3 ⟨rfl, b3⟩; have b4 : Below w.heap.size w w3 := (hbw.drew).trans (b3.mono hz0); have mm := HU.out _ b3))
          clear cc mm b3
          go_wp2
          go_ret
          exact ⟨by rw [hfin.out]; rfl, b4⟩
      · have hltI : ¬ (k : Int) < n := by omega
        have hfin : Hid (decide (E = E') = true) := decide_eq_true (by
          have := HT.out
          rwa [List.take_of_length_le (by rw [HN.out.2.2.1]; omega), List.take_of_length_le (by rw [HN.out.2.2.2]; omega)] at this)
        go_wp2
        go_ret
        exact ⟨by rw [hfin.out]; rfl, hbw⟩
  · have hne : ((n : Int) != m) = true := by simp; omega
    have hfin : Hid (decide (E = E') = false) := decide_eq_false (fun h => hnm (by rw [← HN.out.2.2.1, ← HN.out.2.2.2, h]))
    clear hca hcb hn hm hre hre' hE hE' hA hA' hnm HN hl hl'
    go_enter Tryz.func72, Tryz.ntmps72
    go_wp2
    go_ret
    exact ⟨by rw [hfin.out]; rfl, Below.refl _ _⟩

set_option maxHeartbeats 1000000 in
theorem ins6_any (o : Op5) (p : Option Addr) (l c : Nat) (w : World) : Calls Tryz.prog 59 #[opV o (.slice p l c)] w fun r w' => r = .returned (.bool (decide (o.k = 1 ∨ o.k = 2))) ∧ Below w.heap.size w w' := by
  obtain ⟨k, t, ⟨x, n, u⟩, cc, A⟩ := o
  simp only
  by_cases k1 : k = 1
  · subst k1
    rw [decide_eq_true (Or.inl rfl)]
    go_enter Tryz.func59, Tryz.ntmps59
    go_wp2
    go_ret
    exact ⟨rfl, by go_grown⟩
  · have e1 : (k == 1) = false := by simpa using k1
    by_cases k2 : k = 2
    · subst k2
      rw [decide_eq_true (Or.inr rfl)]
      go_enter Tryz.func59, Tryz.ntmps59
      go_wp2
      go_ret
      exact ⟨rfl, by go_grown⟩
    · have e2 : (k == 2) = false := by simpa using k2
      rw [decide_eq_false (by omega)]
      go_enter Tryz.func59, Tryz.ntmps59
      go_wp2
      go_ret
      exact ⟨rfl, by go_grown⟩
end Go.Proofs.YtalfdjglbbmjcaaGreatDoor

/- The document's deltas: Len. -/
namespace Go.Proofs.YtalfdjglbbmjcaaGreatDoor
open Go Go.RowKit Go.Lib
set_option linter.unusedVariables false

set_option maxHeartbeats 2000000 in
set_option maxRecDepth 100000 in
theorem len6t_any (o : Op5) (p : Option Addr) (l c : Nat) (w : World) (hk : o.k = 1) (hu : brk o.t.data.toList = o.t.size) (ht : o.t.size ≤ 8388608) :
    Calls Tryz.prog 113 #[opV o (.slice p l c)] w fun r w' => r = .returned (.int .i64 (scs o.t.data.toList).length) ∧ Below w.heap.size w w' := by
  obtain ⟨k, t, ⟨x, z, u⟩, cc, A⟩ := o
  simp only at hk hu ht ⊢
  subst hk
  obtain ⟨h1, h2, h3⟩ := valid_text t hu
  obtain ⟨rs, hrs⟩ : ∃ rs, scs t.data.toList = rs := ⟨_, rfl⟩
  rw [hrs] at h1 h2 h3 ⊢
  obtain ⟨n, hnn⟩ : ∃ n, rs.length = n := ⟨_, rfl⟩
  rw [hnn] at h3 ⊢
  have HV : Hid (t.data.toList = encs rs) := h2
  have HN : Hid (rs.length = n) := hnn
  obtain ⟨W0, hW0⟩ : ∃ W, W = w.alloc (.cells #[.int .i64 1, .string t, .int .i64 x, .int .i64 z, .string u, .int .i64 cc, .slice p l c] 33) := ⟨_, rfl⟩
  have b0 : Below w.heap.size w W0 := by rw [hW0]; exact (Below.refl _ _).alloc (Nat.le_refl _) _
  have e0 : W0.cell? ⟨w.heap.size, 0, none⟩ = some (.int .i64 1) := by rw [hW0]; simp
  have e1 : W0.cell? ⟨w.heap.size, 1, none⟩ = some (.string t) := by rw [hW0]; simp
  have hit0 : (W0.iter t 0).heap[W0.heap.size]? = some (.stringIter t 0) := World.iter_heap W0 t 0
  have bi : Below W0.heap.size W0 (W0.iter t 0) := (Below.refl _ _).alloc (Nat.le_refl _) _
  have hbi : Below w.heap.size w (W0.iter t 0) := b0.trans (bi.mono b0.size)
  clear hu h2 hnn hrs
  go_enter Tryz.func113, Tryz.ntmps113
  go_upto_region 1 with fail
  rw [← hW0]
  clear hW0
  go_wp2
  obtain ⟨K, hKK⟩ : ∃ K, K = W0.heap.size := ⟨_, rfl⟩
  have hKw : w.heap.size ≤ K := by rw [hKK]; exact b0.size
  rw [← hKK] at hit0 ⊢
  obtain ⟨wi, hwi⟩ : ∃ wi, wi = W0.iter t 0 := ⟨_, rfl⟩
  rw [← hwi] at hit0 hbi ⊢
  clear hwi bi hKK b0 e0 e1
  go_loopw [3] (fun v wr => ∃ (i : Nat), i ≤ n ∧ v = .int .i64 i ∧ wr.heap[K]? = some (.stringIter t (pos rs i)) ∧ Below w.heap.size w wr) (fun _ wr => t.size - wr.iterPos K)
  case atStart => exact ⟨0, Nat.zero_le _, rfl, hit0, hbi⟩
  case round =>
    clear hit0 hbi
    obtain ⟨i, hin, rfl, hit, hbw⟩ := hrel
    by_cases hlt : i < n
    · obtain ⟨hd, hp⟩ := decode_pos t rs HV.out h1 i (by rw [HN.out]; exact hlt)
      have hps := pos_succ rs i (by rw [HN.out]; exact hlt)
      have hpl := enc_pos (h1 _ (List.getElem_mem (show i < rs.length by rw [HN.out]; exact hlt)))
      obtain ⟨R, hR⟩ : ∃ R, rs[i]'(by rw [HN.out]; exact hlt) = R := ⟨_, rfl⟩
      rw [hR] at hd hps hpl
      have hpq : pos rs i < pos rs (i + 1) := by omega
      have hnx : ∀ ty, (Instr.next (.pointer (some ⟨K, 0, none⟩)) true ty).run Tryz.prog wr = .ok (.tuple #[.bool true, .int .i64 (pos rs i), .int .i32 R]) (wr.iterAt K t (pos rs (i + 1))) := fun ty => by
        have := run_next_any_at (P := Tryz.prog) wr K t (pos rs i) ty hit hp
        rw [hd] at this
        rw [this, hps]
      have hit2 := iterAt_heap wr K t (pos rs i) (pos rs (i + 1)) hit
      have hbw2 := below_iterAt hbw hKw t (pos rs (i + 1))
      have hpos : wr.iterPos K = pos rs i := by simp [World.iterPos, hit]
      have hpos2 : (wr.iterAt K t (pos rs (i + 1))).iterPos K = pos rs (i + 1) := by simp [World.iterPos, hit2]
      have HQ : Hid ((wr.iterAt K t (pos rs (i + 1))).heap[K]? = some (.stringIter t (pos rs (i + 1))) ∧ Below w.heap.size w (wr.iterAt K t (pos rs (i + 1))) ∧ (wr.iterAt K t (pos rs (i + 1))).iterPos K = pos rs (i + 1) ∧ pos rs i < pos rs (i + 1) ∧ pos rs i < t.size ∧ wr.iterPos K = pos rs i) := ⟨hit2, hbw2, hpos2, hpq, hp, hpos⟩
      clear hd hps hpl hR hit hbw hit2 hbw2 hpos hpos2 hpq
      go_wp2
      go_roundw
      case rel => exact ⟨i + 1, by omega, by go_num, HQ.out.1, HQ.out.2.1⟩
      case measure =>
        obtain ⟨_, _, x1, x2, x3, x4⟩ := HQ.out
        rw [x1, x4]
        omega
    · have he : i = n := by omega
      have hpe : ¬ pos rs i < t.size := by
        rw [he, ← HN.out, pos_all, ← HV.out, size_toList]; omega
      have hnx : ∀ ty, (Instr.next (.pointer (some ⟨K, 0, none⟩)) true ty).run Tryz.prog wr = _ := fun ty => run_next_end_at wr K t _ ty hit hpe
      clear hpe hit h1
      subst he
      go_wp2
      go_ret
      exact ⟨rfl, hbw⟩
set_option maxHeartbeats 1000000 in
theorem len6_any (o : Op5) (p : Option Addr) (l c : Nat) (w : World) (hg : opE o = 0) (ht : o.t.size ≤ 8388608) :
    Calls Tryz.prog 113 #[opV o (.slice p l c)] w fun r w' => r = .returned (.int .i64 (len5 o)) ∧ Below w.heap.size w w' := by
  rcases op_good hg with ⟨hi, hk⟩ | ⟨hc, _, hk⟩ | ⟨hc, _, hk⟩
  · unfold len5
    rw [if_pos hk]
    unfold lenO
    rcases hk with hk | hk
    · rw [if_pos hk]
      exact len6t_any o p l c w hk hi.utf ht
    · rw [if_neg (by omega)]
      obtain ⟨k, t, ⟨x, n, u⟩, cc, A⟩ := o
      simp only at hk
      subst hk
      clear hi ht hg
      go_enter Tryz.func113, Tryz.ntmps113
      go_wp2
      go_ret
      exact ⟨rfl, by go_grown⟩
  · unfold len5
    rw [if_neg (by omega)]
    obtain ⟨k, t, ⟨x, n, u⟩, cc, A⟩ := o
    simp only at hk
    subst hk
    clear hc ht hg
    go_enter Tryz.func113, Tryz.ntmps113
    go_wp2
    go_ret
    exact ⟨rfl, by go_grown⟩
  · unfold len5
    rw [if_neg (by omega)]
    obtain ⟨k, t, ⟨x, n, u⟩, cc, A⟩ := o
    simp only at hk
    subst hk
    clear hc ht hg
    go_enter Tryz.func113, Tryz.ntmps113
    go_wp2
    go_ret
    exact ⟨rfl, by go_grown⟩
end Go.Proofs.YtalfdjglbbmjcaaGreatDoor

/- vellumhand.Make, Is; vellumlaw06's gone, text, large, lives. -/
namespace Go.Proofs.YtalfdjglbbmjcaaGreatDoor
open Go Go.RowKit Go.Lib
set_option linter.unusedVariables false
/-- Lists that the calls read. -/
structure OkR (E : List Op5) : Prop where
  n : ∀ o ∈ E, o.A.length ≤ 1048576
  len : E.length ≤ 2097152
set_option maxHeartbeats 1000000 in
theorem is_any {B1 B2 : Nat} (d v : Value) (E F : List Op5) (w : World) (h : DelV w B1 B2 d E) (hg : ∀ o ∈ E, opE o = 0) (hE : OkR E) (hv : ReO w v F) (hF : OkR F) :
    Calls Tryz.prog 15 #[d, v] w fun r w' => r = .returned (.bool (decide (E = F))) ∧ Below w.heap.size w w' := by
  have c1 := ops_any d E w h hg (fun o ho => by have := hE.n o ho; omega) (by have := hE.len; omega)
  have c2 : Hid (∀ W v', Below w.heap.size w W → ReO W v' E → Calls Tryz.prog 72 #[v', v] W fun r w' => r = .returned (.bool (decide (E = F))) ∧ Below W.heap.size W w') := fun W v' hW h' => same6_any v' v E F W h' (hv.below hW) hE.len hF.len hE.n hF.n
  have c3 : Hid (∀ W, Below w.heap.size w W → Calls Tryz.prog 73 #[d] W fun e w' => e = .returned (.int .i64 E.length) ∧ Below W.heap.size W w') := fun W hW => count_any5 d E W (h.below hW)
  obtain ⟨q, pv, PL, rfl, _⟩ := h
  obtain ⟨D, ⟨p, cap, rfl, _, _, _⟩, hre⟩ := hv
  have hl := forall2_len hre
  rw [hl] at c2 ⊢
  obtain ⟨R, hR⟩ : ∃ x, decide (E = F) = x := ⟨_, rfl⟩
  rw [hR] at c2 ⊢
  have hlen : R = true → ((E.length : Int) == (F.length : Int)) = true := fun h => by
    rw [h] at hR
    rw [of_decide_eq_true hR]; simp
  clear hg hE hF hre hl hR
  go_enter Tryz.func15, Tryz.ntmps15
  go_wp2_with fail
  refine c1.mono ?_; rintro r w2 ⟨v', rfl, hco, hb2⟩
  have c4 := c2.out w2 v' hb2 hco.re
  clear c1 c2 hco
  go_wp2_with fail
  refine c4.mono ?_; rintro r w3 ⟨rfl, hb3⟩
  have b3 := hb2.trans (hb3.mono hb2.size)
  clear c4 hb2 hb3
  cases R with
  | true =>
    have c5 := c3.out w3 b3
    have hl2 := hlen rfl
    clear c3 hlen
    go_wp2_with fail
    refine c5.mono ?_; rintro r w4 ⟨rfl, hb4⟩
    have b4 := b3.trans (hb4.mono b3.size)
    clear c5 b3 hb4
    go_wp2
    go_ret
    exact ⟨rfl, b4⟩
  | false =>
    clear c3 hlen
    go_wp2
    go_ret
    exact ⟨rfl, b3⟩
set_option maxHeartbeats 1000000 in
theorem gone_any (n : Int) (w : World) : Calls Tryz.prog 53 #[.int .i64 n] w fun r w' => r = .returned (opV (delO n) (.slice none 0 0)) ∧ Below w.heap.size w w' := by
  go_enter Tryz.func53, Tryz.ntmps53
  go_wp2
  exact bodyPost_ret (v := opV (delO n) (.slice none 0 0)) (by simp [results, Tryz.results53, go_sem, delO, z0]) rfl ⟨rfl, by go_grown⟩
/-- A text to insert. -/
def txtO (t : ByteArray) : Op5 := ⟨1, t, z0, 0, []⟩
set_option maxHeartbeats 1000000 in
theorem text_any (t : ByteArray) (w : World) : Calls Tryz.prog 54 #[.string t] w fun r w' => r = .returned (opV (txtO t) (.slice none 0 0)) ∧ Below w.heap.size w w' := by
  go_enter Tryz.func54, Tryz.ntmps54
  go_wp2
  exact bodyPost_ret (v := opV (txtO t) (.slice none 0 0)) (by simp [results, Tryz.results54, go_sem, txtO, z0]) rfl ⟨rfl, by go_grown⟩

/-- How large a list is. -/
def larN (E : List Op5) : Int := (E.map fun o => (o.t.size : Int) + 10 * o.A.length + 10).sum
theorem larN_append (E F : List Op5) : larN (E ++ F) = larN E + larN F := by unfold larN; rw [List.map_append, List.sum_append]
theorem larN_one (o : Op5) : larN [o] = (o.t.size : Int) + 10 * o.A.length + 10 := by simp [larN]
theorem larN_le {E : List Op5} (h : FitL E) : 0 ≤ larN E ∧ larN E ≤ 20000000 * E.length := by
  induction E with
  | nil => simp [larN]
  | cons o r ih =>
    obtain ⟨h1, h2⟩ := ih (fun x hx => h x (List.mem_cons_of_mem _ hx))
    have ho := h o (List.mem_cons_self ..)
    have e : larN (o :: r) = (o.t.size : Int) + 10 * o.A.length + 10 + larN r := by simp [larN]
    have a1 := ho.t
    have a2 := ho.n
    rw [e, List.length_cons]
    omega
theorem larN_txt (E : List Op5) : (txtS E : Int) + 10 * E.length ≤ larN E := by
  induction E with
  | nil => simp [larN, txtS]
  | cons o r ih =>
    have e : larN (o :: r) = (o.t.size : Int) + 10 * o.A.length + 10 + larN r := by simp [larN]
    have e2 : txtS (o :: r) = o.t.size + txtS r := by simp [txtS]
    rw [e, e2, List.length_cons]
    omega
theorem larN_mem {E : List Op5} {o : Op5} (h : o ∈ E) : (o.t.size : Int) + 10 * o.A.length + 10 ≤ larN E := by
  induction E with
  | nil => cases h
  | cons x r ih =>
    have e : larN (x :: r) = (x.t.size : Int) + 10 * x.A.length + 10 + larN r := by simp [larN]
    have := larN_txt r
    rcases List.mem_cons.1 h with rfl | h
    · omega
    · have := ih h; omega
end Go.Proofs.YtalfdjglbbmjcaaGreatDoor

/- vellumlaw06.lives answers true. -/
namespace Go.Proofs.YtalfdjglbbmjcaaGreatDoor
open Go Go.RowKit Go.Lib
set_option linter.unusedVariables false

/-- A row of operations laid at once. -/
theorem row_blk {w : World} {b : Nat} {D : List OV} (h : w.heap[b]? = some (.cells (cellsO D).toArray 33 (0, 0))) : RowO w (.slice (some ⟨b, 0, none⟩) D.length D.length) D := by
  refine ⟨some ⟨b, 0, none⟩, D.length, rfl, Nat.le_refl _, fun h => (by cases h), fun j d hd => ⟨b, 0, rfl, ?_⟩⟩
  obtain ⟨k0, k1, k2, k3, k4, k5, k6⟩ := cellsO_get D j d hd
  have e : ∀ i u, (cellsO D)[i]? = some u → w.cell? ⟨b, i, none⟩ = some u := fun i u hu => by
    rw [cell_of_heap h]
    rw [List.getElem?_toArray]
    exact hu
  rw [Nat.zero_add]
  exact ⟨e _ _ k0, e _ _ k1, e _ _ k2, e _ _ k3, e _ _ k4, e _ _ k5, e _ _ k6⟩
/-- An operation without attributes, as it lies in memory. -/
abbrev ovN (o : Op5) : OV := (o.k, o.t, o.v, o.c, (none, 0, 0))
theorem re_blk {w : World} {b : Nat} {E : List Op5} (h : w.heap[b]? = some (.cells (cellsO (E.map ovN)).toArray 33 (0, 0))) (hA : ∀ o ∈ E, o.A = []) : ReO w (.slice (some ⟨b, 0, none⟩) E.length E.length) E := by
  refine ⟨E.map ovN, ?_, ?_⟩
  · have := row_blk h
    rw [List.length_map] at this
    exact this
  · clear h
    induction E with
    | nil => exact .nil
    | cons o r ih =>
      refine .cons ⟨rfl, rfl, rfl, rfl, ?_⟩ (ih fun x hx => hA x (List.mem_cons_of_mem _ hx))
      rw [hA o (List.mem_cons_self ..)]
      exact RN.nil w
def live0 : List Op5 := [delO 1, txtO ⟨#[97]⟩, delO 2, txtO ⟨#[98]⟩, ⟨3, ⟨#[]⟩, z0, 3, []⟩]
def live1 : List Op5 := [txtO ⟨#[97, 98]⟩, delO 3]
theorem live0_ok : ofE 0 0 live0 = (0, 0) := by kernel_rfl
theorem live0_canon : canonL live0 = live1 := by kernel_rfl
theorem fit_nil {o : Op5} (h1 : o.t.size ≤ 8388608) (h2 : o.v.2.2.size ≤ 1048576) (h3 : o.A = []) : Fit o := ⟨h1, h2, fun q hq => (by rw [h3] at hq; cases hq), by rw [h3]; simp⟩
theorem live0_nil : ∀ o ∈ live0, o.A = [] := by
  intro o ho
  simp only [live0, List.mem_cons, List.not_mem_nil, or_false] at ho
  rcases ho with rfl | rfl | rfl | rfl | rfl <;> rfl
theorem live1_nil : ∀ o ∈ live1, o.A = [] := by
  intro o ho
  simp only [live1, List.mem_cons, List.not_mem_nil, or_false] at ho
  rcases ho with rfl | rfl <;> rfl
theorem live0_fit : FitL live0 := by
  intro o ho
  refine fit_nil ?_ ?_ (live0_nil o ho)
  all_goals
    simp only [live0, List.mem_cons, List.not_mem_nil, or_false] at ho
    rcases ho with rfl | rfl | rfl | rfl | rfl <;> decide
theorem live1_okR : OkR live1 := ⟨fun o ho => by rw [live1_nil o ho]; simp, by decide⟩
theorem live1_good : ∀ o ∈ live1, opE o = 0 := by
  intro o ho
  simp only [live1, List.mem_cons, List.not_mem_nil, or_false] at ho
  rcases ho with rfl | rfl <;> kernel_rfl
set_option maxHeartbeats 2000000 in
set_option maxRecDepth 100000 in
theorem lives_any {I : List Nat} {a : Nat → Addr} (w : World) (hI : ∀ i ∈ IxO, i ∈ I) (hS : Std I a w) :
    Calls Tryz.prog 8 #[] w fun r w' => r = .returned (.bool true) ∧ Below w.heap.size w w' := by
  have CO : Hid (∀ W b, Below w.heap.size w W → W.heap[b]? = some (.cells (cellsO (live0.map ovN)).toArray 33 (0, 0)) → Calls Tryz.prog 52 #[.slice (some ⟨b, 0, none⟩) 5 5] W fun r w' => ∃ dv, r = .returned (.tuple #[dv, .int .i64 0, .nilIface]) ∧ (∃ q, dv = .pointer (some ⟨q, 0, none⟩)) ∧ DelV w' W.heap.size W.heap.size dv live1 ∧ Below W.heap.size W w') := fun W b hW hb => by
    refine (buildOf_any _ live0 W hI (hS.below hW) (re_blk hb live0_nil) live0_fit (by decide) (by decide)).mono ?_
    rintro r w' ⟨dv, h1, h2, _, h4⟩
    rw [live0_ok] at h1 h2
    rw [live0_canon] at h2
    have h5 := h2 rfl
    obtain ⟨q, pv, PL, e, _⟩ := id h5
    exact ⟨dv, h1, ⟨q, e⟩, h5, h4⟩
  have CI : Hid (∀ W b dv B1 B2, DelV W B1 B2 dv live1 → W.heap[b]? = some (.cells (cellsO (live1.map ovN)).toArray 33 (0, 0)) → Calls Tryz.prog 15 #[dv, .slice (some ⟨b, 0, none⟩) 2 2] W fun r w' => r = .returned (.bool true) ∧ Below W.heap.size W w') := fun W b dv B1 B2 h hb => by
    have := is_any dv (.slice (some ⟨b, 0, none⟩) 2 2) live1 live1 W h live1_good live1_okR (re_blk hb live1_nil) live1_okR
    rw [decide_eq_true rfl] at this
    exact this
  clear hS hI
  go_enter Tryz.func8, Tryz.ntmps8
  go_wp2_with fail
  refine (gone_any _ _).mono ?_; rintro r w1 ⟨rfl, hb1⟩
  go_wp2_with fail
  refine (text_any _ _).mono ?_; rintro r w2 ⟨rfl, hb2⟩
  have b2 := hb1.trans (hb2.mono hb1.size)
  clear hb1 hb2
  go_wp2_with fail
  refine (gone_any _ _).mono ?_; rintro r w3 ⟨rfl, hb3⟩
  have b3 := b2.trans (hb3.mono b2.size)
  clear b2 hb3
  go_wp2_with fail
  refine (text_any _ _).mono ?_; rintro r w4 ⟨rfl, hb4⟩
  have b4 := b3.trans (hb4.mono b3.size)
  clear b3 hb4
  go_wp2_with fail
  refine (CO.out _ _ (b4.alloc b4.size _) (heap_alloc_new w4 _)).mono ?_; rintro r w5 ⟨dv, rfl, ⟨q, rfl⟩, hd5, hb5⟩
  have b5 := (b4.alloc b4.size _).trans (hb5.mono (Nat.le_trans b4.size (by rw [World.size_alloc]; omega)))
  have HD5 : Hid (∃ B1 B2, DelV w5 B1 B2 (.pointer (some ⟨q, 0, none⟩)) live1) := ⟨_, _, hd5⟩
  clear hb5 hd5 CO b4
  go_wp2_with fail
  refine (text_any _ _).mono ?_; rintro r w6 ⟨rfl, hb6⟩
  have b6 := b5.trans (hb6.mono b5.size)
  have HD6 : Hid (∃ B1 B2, DelV w6 B1 B2 (.pointer (some ⟨q, 0, none⟩)) live1) := by obtain ⟨_, _, h⟩ := HD5.out; exact ⟨_, _, h.below hb6⟩
  clear hb6 b5 HD5
  go_wp2_with fail
  refine (gone_any _ _).mono ?_; rintro r w7 ⟨rfl, hb7⟩
  have b7 := b6.trans (hb7.mono b6.size)
  have HD7 : Hid (∃ B1 B2, DelV w7 B1 B2 (.pointer (some ⟨q, 0, none⟩)) live1) := by obtain ⟨_, _, h⟩ := HD6.out; exact ⟨_, _, h.below hb7⟩
  clear hb7 b6 HD6
  obtain ⟨B1, B2, hd7⟩ := HD7.out
  have HD : Hid (DelV w7 B1 B2 (.pointer (some ⟨q, 0, none⟩)) live1) := hd7
  clear hd7 HD7
  go_wp2_with fail
  refine (CI.out _ _ _ B1 B2 (HD.out.below ((Below.refl _ _).alloc (Nat.le_refl _) _)) (heap_alloc_new w7 _)).mono ?_; rintro r w8 ⟨rfl, hb8⟩
  have b8 := (b7.alloc b7.size _).trans (hb8.mono (Nat.le_trans b7.size (by rw [World.size_alloc]; omega)))
  clear hb8 b7 CI HD
  go_wp2_with fail
  refine (empty_any w8).mono ?_; rintro r w9 ⟨v9, rfl, ⟨q9, pv9, PL9, rfl, _⟩, hb9⟩
  have b9 := b8.trans (hb9.mono b8.size)
  clear hb9 b8
  go_wp2_with fail
  refine (new_any (B := 0) (D := fun _ => False) w9 (Nat.zero_le _) (by simp)).mono ?_; rintro r w10 ⟨rfl, _, hb10⟩
  have b10 := b9.trans (hb10.mono b9.size)
  clear hb10 b9
  go_wp2
  go_ret
  exact ⟨rfl, b10⟩
end Go.Proofs.YtalfdjglbbmjcaaGreatDoor

/- vellumlaw08: of, is, fixed. -/
namespace Go.Proofs.YtalfdjglbbmjcaaGreatDoor
open Go Go.RowKit Go.Lib
set_option linter.unusedVariables false

theorem Hid.mk8 {P : Prop} (h : P) : Hid P := h
theorem canB_can {E : List Op5} (h : canonB E = true) : CanO E ∧ Fits8 E ∧ ∀ o ∈ E, opE o = 0 := by
  obtain ⟨h1, h2, h3, h4, h5⟩ := canonB_iff.1 h
  exact ⟨⟨h1, h4, h5⟩, ⟨h2, h3⟩, wel_good h1 h2⟩
theorem can_canB {E : List Op5} (h : CanO E) (hf : Fits8 E) : canonB E = true := canonB_iff.2 ⟨h.wel, hf.1, hf.2, h.chain, h.last⟩
set_option maxHeartbeats 2000000 in
set_option maxRecDepth 100000 in
theorem of8_any {I : List Nat} {a : Nat → Addr} (v : Value) (A : List Op5) (w : World) (hI : ∀ i ∈ IxO, i ∈ I) (hS : Std I a w) (hv : ReO w v A) (hF : FitL A) (hl : A.length ≤ 1048576) (ht : txtS A ≤ 4194304) :
    Calls Tryz.prog 32 #[v] w fun r w' => ∃ dv, r = .returned dv ∧ (canonB A = true → (∃ q, dv = .pointer (some ⟨q, 0, none⟩)) ∧ DlE w' w.heap.size w.heap.size dv A) ∧ (canonB A = false → dv = .pointer none) ∧ Below w.heap.size w w' := by
  have c1 := refCanon_any v A w hS hv hF hl
  have cB : Hid (canonB A = true → ∀ W, Below w.heap.size w W → Calls Tryz.prog 52 #[v] W fun r w' => ∃ q, r = .returned (.tuple #[.pointer (some ⟨q, 0, none⟩), .int .i64 0, .nilIface]) ∧ DlE w' w.heap.size w.heap.size (.pointer (some ⟨q, 0, none⟩)) A ∧ Below w.heap.size w w') := fun hc W hW => by
    obtain ⟨k1, k2, k3⟩ := canB_can hc
    have e0 := ofE_ok A 0 0 k3 (by have := k2.1; omega) (by have := k2.2; omega)
    refine (buildOf_any v A W hI (hS.below hW) (hv.below hW) hF hl (by omega)).mono ?_
    rintro r w' ⟨dv, h1, h2, -, h4⟩
    rw [e0] at h1 h2
    have hd := h2 rfl
    rw [k1.self] at hd
    obtain ⟨q, pv, PL, rfl, _⟩ := id hd
    exact ⟨q, h1, ⟨delV_low hd hW.size hW.size, k3, fun o ho => (hF o ho).fitA, Nat.le_trans hl (by decide), ht, k2⟩, hW.trans (h4.mono hW.size)⟩
  obtain ⟨D0, ⟨p, cap, rfl, _⟩, _⟩ := id hv
  obtain ⟨b, hb⟩ : ∃ x, canonB A = x := ⟨_, rfl⟩
  rw [hb] at c1 cB ⊢
  clear hS hv hF hl ht hb
  go_enter Tryz.func32, Tryz.ntmps32
  go_wp2_with fail
  refine c1.mono ?_; rintro r w2 ⟨rfl, b2⟩
  cases b with
  | false =>
    clear c1 cB
    go_wp2
    go_ret
    exact ⟨_, rfl, rfl, b2⟩
  | true =>
    have c2 := cB.out rfl w2 b2
    clear c1 cB
    go_wp2_with fail
    refine c2.mono ?_; rintro r w3 ⟨q, rfl, hd, b3⟩
    have HD := Hid.mk8 hd
    clear c2 hd b2
    go_wp2
    go_ret
    exact ⟨_, rfl, ⟨⟨q, rfl⟩, HD.out⟩, b3⟩
theorem isNo8_any (v : Value) (w : World) : Calls Tryz.prog 51 #[.pointer none, v] w fun r w' => r = .returned (.bool false) ∧ Below w.heap.size w w' := by
  go_enter Tryz.func51, Tryz.ntmps51
  go_wp2
  go_ret
  exact ⟨rfl, Below.refl _ _⟩
set_option maxHeartbeats 2000000 in
set_option maxRecDepth 100000 in
theorem is8_any {B1 B2 : Nat} (d v : Value) (E F : List Op5) (w : World) (h : DlE w B1 B2 d E) (hv : ReO w v F) (hl : F.length ≤ 2097152) (hA : ∀ e ∈ F, e.A.length ≤ 1048576) :
    Calls Tryz.prog 51 #[d, v] w fun r w' => r = .returned (.bool (decide (E = F))) ∧ Below w.heap.size w w' := by
  have c1 := ops_any d E w h.d h.g h.n (Nat.le_trans h.len (by decide))
  have c2 : Hid (∀ W v', Below w.heap.size w W → ReO W v' E → Calls Tryz.prog 103 #[v', v] W fun r w' => r = .returned (.bool (decide (E = F))) ∧ Below W.heap.size W w') := fun W v' hW h' => sameQ_any v' v E F W h' (hv.below hW) (Nat.le_trans h.len (by decide)) hl (fun e he => (h.fit e he).n) hA
  obtain ⟨q, pv, PL, rfl, _⟩ := h.d
  obtain ⟨D0, ⟨p, cap, rfl, _⟩, _⟩ := id hv
  obtain ⟨bb, hbb⟩ : ∃ x, decide (E = F) = x := ⟨_, rfl⟩
  rw [hbb] at c2 ⊢
  clear h hv hl hA hbb
  go_enter Tryz.func51, Tryz.ntmps51
  go_wp2_with fail
  refine c1.mono ?_; rintro r w2 ⟨v', rfl, hco, hb2⟩
  have c4 := c2.out w2 v' hb2 hco.re
  obtain ⟨D1, ⟨p1, c1', e1⟩, _⟩ : ∃ D1, (∃ p c, v' = .slice p D1 c) ∧ True := by
    obtain ⟨D', ⟨p', cap', e', _⟩, _⟩ := hco.re
    exact ⟨_, ⟨p', cap', e'⟩, trivial⟩
  subst e1
  clear c1 c2 hco
  go_wp2_with fail
  refine c4.mono ?_; rintro r w3 ⟨rfl, hb3⟩
  have b3 := hb2.trans (hb3.mono hb2.size)
  clear c4 hb2 hb3
  go_wp2
  go_ret
  exact ⟨rfl, b3⟩
def fixA : List Op5 := [pl7 1, delO 2]
def fixB : List Op5 := [txtO ⟨#[120]⟩]
def fixC : List Op5 := [pl7 1, txtO ⟨#[120]⟩, delO 2]
def fixD : List Op5 := [pl7 4, delO 2]
theorem fix_nil : (∀ o ∈ fixA, o.A = []) ∧ (∀ o ∈ fixB, o.A = []) ∧ (∀ o ∈ fixC, o.A = []) ∧ ∀ o ∈ fixD, o.A = [] := by
  refine ⟨fun o ho => ?_, fun o ho => ?_, fun o ho => ?_, fun o ho => ?_⟩
  · simp only [fixA, List.mem_cons, List.not_mem_nil, or_false] at ho
    rcases ho with rfl | rfl <;> rfl
  · simp only [fixB, List.mem_cons, List.not_mem_nil, or_false] at ho
    subst ho; rfl
  · simp only [fixC, List.mem_cons, List.not_mem_nil, or_false] at ho
    rcases ho with rfl | rfl | rfl <;> rfl
  · simp only [fixD, List.mem_cons, List.not_mem_nil, or_false] at ho
    rcases ho with rfl | rfl <;> rfl
theorem fix_fitA : FitL fixA := fun o ho => fit_nil (by
  simp only [fixA, List.mem_cons, List.not_mem_nil, or_false] at ho
  rcases ho with rfl | rfl <;> decide) (by
  simp only [fixA, List.mem_cons, List.not_mem_nil, or_false] at ho
  rcases ho with rfl | rfl <;> decide) (fix_nil.1 o ho)
theorem fix_fitB : FitL fixB := fun o ho => fit_nil (by
  simp only [fixB, List.mem_cons, List.not_mem_nil, or_false] at ho
  subst ho; decide) (by
  simp only [fixB, List.mem_cons, List.not_mem_nil, or_false] at ho
  subst ho; decide) (fix_nil.2.1 o ho)
theorem fix_fitC : FitL fixC := fun o ho => fit_nil (by
  simp only [fixC, List.mem_cons, List.not_mem_nil, or_false] at ho
  rcases ho with rfl | rfl | rfl <;> decide) (by
  simp only [fixC, List.mem_cons, List.not_mem_nil, or_false] at ho
  rcases ho with rfl | rfl | rfl <;> decide) (fix_nil.2.2.1 o ho)
theorem fix_fitD : FitL fixD := fun o ho => fit_nil (by
  simp only [fixD, List.mem_cons, List.not_mem_nil, or_false] at ho
  rcases ho with rfl | rfl <;> decide) (by
  simp only [fixD, List.mem_cons, List.not_mem_nil, or_false] at ho
  rcases ho with rfl | rfl <;> decide) (fix_nil.2.2.2 o ho)
theorem fix_canA : canonB fixA = true := by kernel_rfl
theorem fix_canB : canonB fixB = true := by kernel_rfl
theorem fix_cat : canonL (fixA ++ fixB) = fixC := by kernel_rfl
theorem fix_sh : shift8 fixA 3 = fixD := by
  have e : shift8 fixA 3 = canonL (pl7 3 :: fixA) := if_neg (by simp [fixA])
  exact e.trans (by kernel_rfl)
theorem fix_num : sumB fixA = 3 ∧ sumR fixA = 1 ∧ sumD8 fixA = 2 ∧ sumI8 fixB = 1 ∧ sumB fixB = 0 := by decide
theorem fix_fits : Fits8 (fixA ++ fixB) ∧ FitSh fixA 3 := by
  refine ⟨by unfold Fits8; decide, Or.inr (by decide)⟩
end Go.Proofs.YtalfdjglbbmjcaaGreatDoor

/- vellumlaw08: fixed answers true. -/
namespace Go.Proofs.YtalfdjglbbmjcaaGreatDoor
open Go Go.RowKit Go.Lib
set_option linter.unusedVariables false

/-- The errors that the laws ask for. -/
def IR8 : List Nat := 11 :: IxO
theorem ir8 {I : List Nat} (h : ∀ i ∈ IR8, i ∈ I) : (∀ i ∈ IxO, i ∈ I) ∧ 11 ∈ I := ⟨fun i hi => h i (List.mem_cons_of_mem _ hi), h 11 (List.mem_cons_self ..)⟩
/-- A delta of a fixed list. -/
theorem fixed_of {I : List Nat} {a : Nat → Addr} (E : List Op5) (n : Nat) (w : World) (b : Nat) (hI : ∀ i ∈ IxO, i ∈ I) (hS : Std I a w) (hn : E.length = n) (hA : ∀ o ∈ E, o.A = []) (hF : FitL E) (hl : E.length ≤ 1048576) (ht : txtS E ≤ 4194304) (hc : canonB E = true) (hb : w.heap[b]? = some (.cells (cellsO (E.map ovN)).toArray 33 (0, 0))) :
    Calls Tryz.prog 32 #[.slice (some ⟨b, 0, none⟩) n n] w fun r w' => ∃ q, r = .returned (.pointer (some ⟨q, 0, none⟩)) ∧ DlE w' w.heap.size w.heap.size (.pointer (some ⟨q, 0, none⟩)) E ∧ Below w.heap.size w w' := by
  subst hn
  refine (of8_any _ E w hI hS (re_blk hb hA) hF hl ht).mono ?_
  rintro r w' ⟨dv, rfl, h1, -, h3⟩
  obtain ⟨⟨q, rfl⟩, h2⟩ := h1 hc
  exact ⟨q, rfl, h2, h3⟩
set_option maxHeartbeats 4000000 in
set_option maxRecDepth 100000 in
theorem fixed8_any {I : List Nat} {a : Nat → Addr} (w : World) (hI : ∀ i ∈ IxO, i ∈ I) (h11 : 11 ∈ I) (hS : Std I a w) :
    Calls Tryz.prog 31 #[] w fun r w' => r = .returned (.bool true) ∧ Below w.heap.size w w' := by
  have hS' : Hid (∀ W, Below w.heap.size w W → Std I a W) := fun W h => hS.below h
  have b1 : Below w.heap.size w (w.alloc (.cells (cellsO (fixA.map ovN)).toArray 33)) := (Below.refl _ _).alloc (Nat.le_refl _) _
  have c1 := fixed_of fixA 2 _ w.heap.size hI (hS'.out _ b1) rfl fix_nil.1 fix_fitA (by decide) (by decide) fix_canA (heap_alloc_new w _)
  have cB := fun (W : World) (hW : Below w.heap.size w W) => fixed_of fixB 1 (W.alloc (.cells (cellsO (fixB.map ovN)).toArray 33)) W.heap.size hI (hS'.out _ (hW.alloc hW.size _)) rfl fix_nil.2.1 fix_fitB (by decide) (by decide) fix_canB (heap_alloc_new W _)
  have HC : Hid (∀ (W : World) (d1 d2 d3 d4 : Nat) (u v : Value), Below w.heap.size w W → DlE W d1 d2 u fixA → DlE W d3 d4 v fixB → Calls Tryz.prog 44 #[u, v] W fun r w' => ∃ q, r = .returned (.tuple #[.pointer (some ⟨q, 0, none⟩), .nilIface]) ∧ DlE w' W.heap.size W.heap.size (.pointer (some ⟨q, 0, none⟩)) fixC ∧ Below W.heap.size W w') := fun W d1 d2 d3 d4 u v hW hu hv => by
    refine (concat8_any u v fixA fixB W hI (hS'.out W hW) hu hv (by decide)).mono ?_
    rintro r w' ⟨dv, er, rfl, ⟨x1, -⟩, x3⟩
    obtain ⟨rfl, hd⟩ := x1 fix_fits.1
    rw [fix_cat] at hd
    obtain ⟨q, pv, PL, rfl, _⟩ := id hd
    exact ⟨q, rfl, ⟨hd, wel_good (by rw [← fix_cat]; exact (CanO.of (wel_app hu.wel hv.wel)).wel) (by decide), fun o ho => (fix_fitC o ho).fitA, by decide, by decide, by unfold Fits8; decide⟩, x3⟩
  have HD : Hid (∀ (W : World) (d1 d2 : Nat) (u : Value), Below w.heap.size w W → DlE W d1 d2 u fixA → Calls Tryz.prog 49 #[u, .int .i64 3] W fun r w' => ∃ q, r = .returned (.tuple #[.pointer (some ⟨q, 0, none⟩), .nilIface]) ∧ (∃ e1 e2, DlE w' e1 e2 (.pointer (some ⟨q, 0, none⟩)) fixD) ∧ Below W.heap.size W w') := fun W d1 d2 u hW hu => by
    refine (shift8_any u fixA 3 W hI h11 (hS'.out W hW) hu (by decide) (by decide)).mono ?_
    rintro r w' ⟨dv, er, rfl, ⟨-, x2⟩, x3⟩
    obtain ⟨rfl, e1, e2, hd⟩ := (x2 (by decide)).1 fix_fits.2
    rw [fix_sh] at hd
    obtain ⟨q, pv, PL, rfl, _⟩ := id hd
    exact ⟨q, rfl, ⟨e1, e2, hd, wel_good (by rw [← fix_sh]; exact (shift_units ⟨hu.wel, by kernel_rfl, by kernel_rfl⟩ (by decide) (by simp [fixA])).1.wel) (by decide), fun o ho => (fix_fitD o ho).fitA, by decide, by decide, by unfold Fits8; decide⟩, x3⟩
  have n1 := fix_num
  clear hS
  go_enter Tryz.func31, Tryz.ntmps31
  go_wp2_with fail
  refine c1.mono ?_; rintro r w2 ⟨qa, rfl, ha, b2⟩
  have hb2 := b1.trans (b2.mono b1.size)
  have HA2 := Hid.mk8 ha
  have c2 := cB w2 hb2
  clear c1 cB b1 b2 ha
  go_wp2_with fail
  refine c2.mono ?_; rintro r w3 ⟨qb, rfl, hb, b3⟩
  have ba : Below w2.heap.size w2 (w2.alloc (.cells (cellsO (fixB.map ovN)).toArray 33)) := (Below.refl _ _).alloc (Nat.le_refl _) _
  have b23 := ba.trans (b3.mono ba.size)
  have hb3 := hb2.trans (b23.mono hb2.size)
  have HA3 := Hid.mk8 (HA2.out.below b23)
  have HB3 := Hid.mk8 hb
  have c3 := base8_any _ _ w3 HA3.out
  rw [n1.1] at c3
  clear c2 hb2 b23 ba b3 hb HA2
  go_wp2_with fail
  refine c3.mono ?_; rintro r w4 ⟨rfl, b4⟩
  have hb4 := hb3.trans (b4.mono hb3.size)
  have HA4 := Hid.mk8 (HA3.out.below b4)
  have HB4 := Hid.mk8 (HB3.out.below b4)
  have c4 := result8_any _ _ w4 HA4.out
  rw [n1.2.1] at c4
  clear c3 hb3 b4 HA3 HB3
  go_wp2_with fail
  refine c4.mono ?_; rintro r w5 ⟨rfl, b5⟩
  have hb5 := hb4.trans (b5.mono hb4.size)
  have HA5 := Hid.mk8 (HA4.out.below b5)
  have HB5 := Hid.mk8 (HB4.out.below b5)
  have c5 := dl8_any _ _ w5 HA5.out
  rw [n1.2.2.1] at c5
  clear c4 hb4 b5 HA4 HB4
  go_wp2_with fail
  refine c5.mono ?_; rintro r w6 ⟨rfl, b6⟩
  have hb6 := hb5.trans (b6.mono hb5.size)
  have HA6 := Hid.mk8 (HA5.out.below b6)
  have HB6 := Hid.mk8 (HB5.out.below b6)
  have c6 := ins8_any _ _ w6 HB6.out
  rw [n1.2.2.2.1] at c6
  clear c5 hb5 b6 HA5 HB5
  go_wp2_with fail
  refine c6.mono ?_; rintro r w7 ⟨rfl, b7⟩
  have hb7 := hb6.trans (b7.mono hb6.size)
  have HA7 := Hid.mk8 (HA6.out.below b7)
  have HB7 := Hid.mk8 (HB6.out.below b7)
  have c7 := doc8_any _ _ w7 HB7.out
  rw [n1.2.2.2.2] at c7
  clear c6 hb6 b7 HA6 HB6
  go_wp2_with fail
  refine c7.mono ?_; rintro r w8 ⟨rfl, b8⟩
  have hb8 := hb7.trans (b8.mono hb7.size)
  have HA8 := Hid.mk8 (HA7.out.below b8)
  have HB8 := Hid.mk8 (HB7.out.below b8)
  have c8 := doc8_any _ _ w8 HA8.out
  rw [n1.1] at c8
  clear c7 hb7 b8 HA7 HB7
  go_wp2_with fail
  refine c8.mono ?_; rintro r w9 ⟨rfl, b9⟩
  have hb9 := hb8.trans (b9.mono hb8.size)
  have HA9 := Hid.mk8 (HA8.out.below b9)
  have HB9 := Hid.mk8 (HB8.out.below b9)
  have c9 := HC.out w9 _ _ _ _ _ _ hb9 HA9.out HB9.out
  clear c8 hb8 b9 HA8 HB8
  go_wp2_with fail
  refine c9.mono ?_; rintro r wA ⟨qc, rfl, hc, bA⟩
  have hbA := hb9.trans (bA.mono hb9.size)
  have HAA := Hid.mk8 (HA9.out.below bA)
  have HCA := Hid.mk8 hc
  have cA := HD.out wA _ _ _ hbA HAA.out
  clear c9 hb9 bA hc HA9 HB9 HC
  go_wp2_with fail
  refine cA.mono ?_; rintro r wB ⟨qd, rfl, ⟨e1, e2, hd⟩, bB⟩
  have hbB := hbA.trans (bB.mono hbA.size)
  have HDB := Hid.mk8 hd
  have HCB := Hid.mk8 (HCA.out.below bB)
  have bc : Below wB.heap.size wB (wB.alloc (.cells (cellsO (fixC.map ovN)).toArray 33)) := (Below.refl _ _).alloc (Nat.le_refl _) _
  have cI := is8_any _ (.slice (some ⟨wB.heap.size, 0, none⟩) 3 3) fixC fixC (wB.alloc (.cells (cellsO (fixC.map ovN)).toArray 33)) (HCB.out.below bc) (re_blk (heap_alloc_new wB _) fix_nil.2.2.1) (by decide) (fun e he => by rw [fix_nil.2.2.1 e he]; decide)
  rw [decide_eq_true rfl] at cI
  clear cA hbA bB hd HAA HCA HD
  go_wp2_with fail
  refine cI.mono ?_; rintro r wC ⟨rfl, bC⟩
  have hbC := (hbB.trans (bc.mono hbB.size)).trans (bC.mono (Nat.le_trans hbB.size bc.size))
  have HDC := Hid.mk8 ((HDB.out.below bc).below bC)
  have bd : Below wC.heap.size wC (wC.alloc (.cells (cellsO (fixD.map ovN)).toArray 33)) := (Below.refl _ _).alloc (Nat.le_refl _) _
  have cJ := is8_any _ (.slice (some ⟨wC.heap.size, 0, none⟩) 2 2) fixD fixD (wC.alloc (.cells (cellsO (fixD.map ovN)).toArray 33)) (HDC.out.below bd) (re_blk (heap_alloc_new wC _) fix_nil.2.2.2) (by decide) (fun e he => by rw [fix_nil.2.2.2 e he]; decide)
  rw [decide_eq_true rfl] at cJ
  clear cI hbB bC HDB HCB bc
  go_wp2_with fail
  refine cJ.mono ?_; rintro r wD ⟨rfl, bD⟩
  have hbD := (hbC.trans (bd.mono hbC.size)).trans (bD.mono (Nat.le_trans hbC.size bd.size))
  clear cJ hbC bD HDC bd
  go_wp2
  go_ret
  exact ⟨rfl, hbD⟩
end Go.Proofs.YtalfdjglbbmjcaaGreatDoor

/- The document's Base, Result, Inserted, Deleted, Document of layer 8. -/
namespace Go.Proofs.YtalfdjglbbmjcaaGreatDoor
open Go Go.RowKit Go.Lib
set_option linter.unusedVariables false

theorem lensL_ok8 {E : List Op5} (hg : ∀ o ∈ E, opE o = 0) (hf : Fits8 E) : lensL E = (sumB E, sumR E, 0) := by
  unfold lensL
  rw [bad_none hg, if_neg (by simp), sumL_ok (fun o ho => wel_of (hg o ho)) ⟨by have := hf.1; omega, by have := hf.2; omega⟩]
  simp
/-- What the reference reads. -/
structure RfE (w : World) (v : Value) (E : List Op5) : Prop where
  re : ReO w v E
  g : ∀ o ∈ E, opE o = 0
  fit : FitL E
  len : E.length ≤ 1048576
  fits : Fits8 E
theorem RfE.below {w w' : World} {v : Value} {E : List Op5} (h : RfE w v E) (b : Below w.heap.size w w') : RfE w' v E := ⟨h.re.below b, h.g, h.fit, h.len, h.fits⟩
theorem RfE.sl {w : World} {v : Value} {E : List Op5} (h : RfE w v E) : ∃ p c, v = .slice p E.length c := by
  obtain ⟨D, ⟨p, cap, rfl, _⟩, hre⟩ := h.re
  exact ⟨p, cap, by rw [forall2_len hre]⟩
set_option maxHeartbeats 1000000 in
theorem refBase8_any {I : List Nat} {a : Nat → Addr} (v : Value) (E : List Op5) (w : World) (hS : Std I a w) (h : RfE w v E) :
    Calls Tryz.prog 35 #[v] w fun r w' => r = .returned (.int .i64 (sumB E)) ∧ Below w.heap.size w w' := by
  have c := refLens_any v E w hS h.re h.fit h.len
  rw [lensL_ok8 h.g h.fits] at c
  obtain ⟨p, cp, rfl⟩ := h.sl
  obtain ⟨B, hB⟩ : ∃ x, sumB E = x := ⟨_, rfl⟩
  rw [hB] at c ⊢
  clear h hS hB
  go_enter Tryz.func35, Tryz.ntmps35
  go_wp2_with fail
  refine c.mono ?_; rintro r w2 ⟨rfl, b2⟩
  clear c
  go_wp2
  go_ret
  exact ⟨rfl, b2⟩
set_option maxHeartbeats 1000000 in
theorem refResult8_any {I : List Nat} {a : Nat → Addr} (v : Value) (E : List Op5) (w : World) (hS : Std I a w) (h : RfE w v E) :
    Calls Tryz.prog 37 #[v] w fun r w' => r = .returned (.int .i64 (sumR E)) ∧ Below w.heap.size w w' := by
  have c := refLens_any v E w hS h.re h.fit h.len
  rw [lensL_ok8 h.g h.fits] at c
  obtain ⟨p, cp, rfl⟩ := h.sl
  obtain ⟨B, hB⟩ : ∃ x, sumR E = x := ⟨_, rfl⟩
  rw [hB] at c ⊢
  clear h hS hB
  go_enter Tryz.func37, Tryz.ntmps37
  go_wp2_with fail
  refine c.mono ?_; rintro r w2 ⟨rfl, b2⟩
  clear c
  go_wp2
  go_ret
  exact ⟨rfl, b2⟩
theorem sumI8_snoc (F : List Op5) (o : Op5) : sumI8 (F ++ [o]) = sumI8 F + insO8 o := by simp [sumI8]
theorem sumD8_snoc (F : List Op5) (o : Op5) : sumD8 (F ++ [o]) = sumD8 F + dlO8 o := by simp [sumD8]
theorem sums_take8 {E : List Op5} (hw : ∀ o ∈ E, Wel o) (hf : Fits8 E) (k : Nat) : (0 ≤ sumI8 (E.take k) ∧ sumI8 (E.take k) ≤ 1099511627776) ∧ (0 ≤ sumD8 (E.take k) ∧ sumD8 (E.take k) ≤ 1099511627776) := by
  have h1 := fits_front (E := E.take k) (F := E.drop k) (fun o ho => hw o (List.mem_of_mem_drop ho)) (by rw [List.take_append_drop]; exact hf)
  have h2 := sums_three (E := E.take k) (fun o ho => hw o (List.mem_of_mem_take ho))
  unfold Fits8 at h1
  omega
/-- One operation of a row that is read. -/
theorem RfE.at' {w : World} {p : Option Addr} {n c : Nat} {E : List Op5} (h : RfE w (.slice p n c) E) {k : Nat} (hk : k < n) : E.length = n ∧ n ≤ c ∧ ∃ e b off sp sc, E[k]? = some e ∧ p = some ⟨b, off, none⟩ ∧ OpAt w b (off + k * 7) (e.k, e.t, e.v, e.c, sp, e.A.length, sc) ∧ RN w (.slice sp e.A.length sc) e.A ∧ opE e = 0 ∧ Fit e := by
  obtain ⟨D, ⟨q, cap, hv, hl, _, hc⟩, hre⟩ := h.re
  simp only [Value.slice.injEq] at hv
  obtain ⟨rfl, hnl, rfl⟩ := hv
  have hD := forall2_len hre
  refine ⟨by omega, by omega, ?_⟩
  obtain ⟨d, hd⟩ : ∃ d, D[k]? = some d := ⟨_, List.getElem?_eq_getElem (by omega)⟩
  obtain ⟨y, hy, h1, h2, h3, h4, h5⟩ := forall2_get hre k d hd
  obtain ⟨b, off, e1, e2⟩ := hc k d hd
  obtain ⟨dk, dt, dv, dc, dp, dl, dcap⟩ := d
  obtain ⟨q', c', e3, _⟩ := h5.row.val
  simp only at h1 h2 h3 h4
  simp only [slV, Value.slice.injEq] at e3
  obtain ⟨rfl, rfl, rfl⟩ := e3
  subst h1; subst h2; subst h3; subst h4
  exact ⟨y, b, off, dp, dcap, hy, e1, e2, h5, h.g y (List.mem_of_getElem? hy), h.fit y (List.mem_of_getElem? hy)⟩
set_option maxHeartbeats 4000000 in
set_option maxRecDepth 100000 in
theorem refIns8_any (v : Value) (E : List Op5) (w : World) (h : RfE w v E) :
    Calls Tryz.prog 39 #[v] w fun r w' => r = .returned (.int .i64 (sumI8 E)) ∧ Below w.heap.size w w' := by
  obtain ⟨p, cp, rfl⟩ := h.sl
  obtain ⟨n, hn⟩ : ∃ n, E.length = n := ⟨_, rfl⟩
  rw [hn] at h ⊢
  have H := Hid.mk8 h
  have HN : Hid (E.length = n) := hn
  have hl : n ≤ 1048576 := by rw [← hn]; exact h.len
  clear h hn
  go_enter Tryz.func39, Tryz.ntmps39
  go_wp2
  go_loopw [3, 4] (fun s i wr => ∃ (k : Nat) (z : Int), k ≤ n ∧ i = .int .i64 k ∧ s = .int .i64 z ∧ Hid (sumI8 (E.take k) = z) ∧ Below w.heap.size w wr) (fun _ i _ => n - (RowKit.intOf i).toNat)
  case atStart => exact ⟨0, 0, Nat.zero_le _, rfl, rfl, by show sumI8 (E.take 0) = 0; simp [sumI8], Below.refl _ _⟩
  case round =>
    obtain ⟨k, z, hk, rfl, rfl, HZ, hbw⟩ := hrel
    by_cases hlt : k < n
    · have hltI : (k : Int) < n := by omega
      obtain ⟨-, hcp, e, b, off, sp, sc, he, rfl, hat, hrn, hg, hf⟩ := (H.out.below hbw).at' hlt
      obtain ⟨c0, c1, c2, c3, c4, c5, c6⟩ := hat
      have ht := sums_take8 (fun o ho => wel_of (H.out.g o ho)) H.out.fits k
      have ht2 := sums_take8 (fun o ho => wel_of (H.out.g o ho)) H.out.fits (k + 1)
      have hsn : sumI8 (E.take (k + 1)) = z + insO8 e := by rw [List.take_add_one, he, Option.toList_some, sumI8_snoc, HZ.out]
      rw [HZ.out] at ht
      have cl := refLenO_any e (.slice sp e.A.length sc) wr hg hf
      have hz : IntKind.i64.wrap (z + len5 e) = z + len5 e ∨ ¬ (e.k = 1 ∨ e.k = 2) := by
        by_cases hk : e.k = 1 ∨ e.k = 2
        · left
          rw [hsn] at ht2
          unfold insO8 at ht2
          rw [if_pos hk] at ht2
          rw [IntKind.wrap_i64]; omega
        · exact Or.inr hk
      have HS : Hid (sumI8 (E.take (k + 1)) = z + insO8 e) := hsn
      rcases kinds_of hg with hk1 | hk1 | hk1 | hk1
      · have hi : insO8 e = len5 e := if_pos (Or.inl hk1)
        rw [hi] at HS
        obtain ⟨L, hL⟩ : ∃ x, len5 e = x := ⟨_, rfl⟩
        rw [hL] at HS hz cl
        have hz := hz.resolve_right (by omega)
        clear he hg hf hrn ht ht2 hsn hi hL
        obtain ⟨ek, et, ⟨ex, en, eu⟩, ec, eA⟩ := e
        simp only at c0 c1 c2 c3 c4 c5 c6 cl hk1
        subst hk1
        simp only [slV] at c6
        go_wp2_with fail
        refine cl.mono ?_; rintro r w3 ⟨rfl, b3⟩
        have b3' := hbw.trans (b3.mono hbw.size)
        clear cl b3 c0 c1 c2 c3 c4 c5 c6
        go_wp2
        go_roundw
        case rel => exact ⟨k + 1, z + L, by omega, by go_num, by first | rfl | rw [hz], HS.out, b3'⟩
        case measure => simp [RowKit.intOf]; omega
      · have hi : insO8 e = len5 e := if_pos (Or.inr hk1)
        rw [hi] at HS
        obtain ⟨L, hL⟩ : ∃ x, len5 e = x := ⟨_, rfl⟩
        rw [hL] at HS hz cl
        have hz := hz.resolve_right (by omega)
        clear he hg hf hrn ht ht2 hsn hi hL
        obtain ⟨ek, et, ⟨ex, en, eu⟩, ec, eA⟩ := e
        simp only at c0 c1 c2 c3 c4 c5 c6 cl hk1
        subst hk1
        simp only [slV] at c6
        go_wp2_with fail
        refine cl.mono ?_; rintro r w3 ⟨rfl, b3⟩
        have b3' := hbw.trans (b3.mono hbw.size)
        clear cl b3 c0 c1 c2 c3 c4 c5 c6
        go_wp2
        go_roundw
        case rel => exact ⟨k + 1, z + L, by omega, by go_num, by first | rfl | rw [hz], HS.out, b3'⟩
        case measure => simp [RowKit.intOf]; omega
      all_goals
        have hi : insO8 e = 0 := if_neg (by omega)
        rw [hi, Int.add_zero] at HS
        clear he hg hf hrn ht ht2 hsn hi cl hz
        obtain ⟨ek, et, ⟨ex, en, eu⟩, ec, eA⟩ := e
        simp only at c0 hk1
        subst hk1
        clear c1 c2 c3 c4 c5 c6
        go_wp2
        go_roundw
        case rel => exact ⟨k + 1, z, by omega, by go_num, rfl, HS.out, hbw⟩
        case measure => simp [RowKit.intOf]; omega
    · have hltI : ¬ (k : Int) < n := by omega
      have hE : E.take k = E := List.take_of_length_le (by rw [HN.out]; omega)
      rw [hE] at HZ
      go_wp2
      go_ret
      exact ⟨by rw [HZ.out]; rfl, hbw⟩
end Go.Proofs.YtalfdjglbbmjcaaGreatDoor

/- The document's deltas: push: an operation put behind others. -/
namespace Go.Proofs.YtalfdjglbbmjcaaGreatDoor
open Go Go.RowKit Go.Lib
set_option linter.unusedVariables false

/-- An operation in memory, its fields those of e. -/
abbrev FldE (d : OV) (e : Op5) : Prop := d.1 = e.k ∧ d.2.1 = e.t ∧ d.2.2.1 = e.v ∧ d.2.2.2.1 = e.c
/-- The cells of a row, one operation of it with another text and count. -/
theorem cellsO_set (F : List OV) (d : OV) (t : ByteArray) (c : Int) : ((cellsO (F ++ [d])).set (F.length * 7 + 1) (.string t)).set (F.length * 7 + 5) (.int .i64 c) = cellsO (F ++ [(d.1, t, d.2.2.1, c, d.2.2.2.2)]) := by
  rw [cellsO_append, cellsO_append]
  have hl := cellsO_len F
  rw [List.set_append_right _ _ (by omega), List.set_append_right _ _ (by omega), hl]
  rw [show F.length * 7 + 1 - F.length * 7 = 1 by omega, show F.length * 7 + 5 - F.length * 7 = 5 by omega]
  simp [cellsO]
theorem own_joinO {w : World} {B g cap : Nat} {F : List OV} {d : OV} (h : OwnO w B (.slice (some ⟨g, 0, none⟩) (F.length + 1) cap) (F ++ [d])) (t : ByteArray) (c : Int) :
    OwnO ((w.setCell ⟨g, F.length * 7 + 1, none⟩ (.string t)).setCell ⟨g, F.length * 7 + 5, none⟩ (.int .i64 c)) B (.slice (some ⟨g, 0, none⟩) (F.length + 1) cap) (F ++ [(d.1, t, d.2.2.1, c, d.2.2.2.2)]) := by
  have h' : w.ownsRow B 33 7 (.slice (some ⟨g, 0, none⟩) (F.length + 1) cap) (F.length + 1) (cellsO (F ++ [d])) := by
    have := h
    unfold OwnO at this
    rw [List.length_append] at this
    exact this
  have h1 := (h'.stored (F.length * 7 + 1) (.string t)).1
  have h2 := (h1.stored (F.length * 7 + 5) (.int .i64 c)).1
  rw [cellsO_set] at h2
  show World.ownsRow _ _ _ _ _ _ _
  rw [List.length_append]
  exact h2
/-- But for one row's block the memory stands. -/
structure Row1 (v : Value) (w w' : World) : Prop where
  os : w'.os = w.os
  tape : w'.tape = w.tape
  output : w'.output = w.output
  size : w.heap.size ≤ w'.heap.size
  block : ∀ k, k < w.heap.size → v.ownBlock ≠ some k → w'.heap[k]? = w.heap[k]?
theorem Row1.of_below {v : Value} {w w' : World} (h : Below w.heap.size w w') : Row1 v w w' := ⟨h.os, h.tape, h.output, h.size, fun k hk _ => h.block k hk⟩
theorem Row1.grown {v : Value} {a w w' : World} (h : Row1 v a w) (g : w.grownBy w' v.ownBlock) : Row1 v a w' :=
  ⟨g.os.trans h.os, g.tape.trans h.tape, g.output.trans h.output, Nat.le_trans h.size g.size, fun k hk hn => (g.block k (Nat.lt_of_lt_of_le hk h.size) (fun e => hn e.symm)).trans (h.block k hk hn)⟩
theorem Row1.setCell {v : Value} {a w : World} (h : Row1 v a w) {g : Nat} (hg : v.ownBlock = some g) (j : Nat) (u : Value) : Row1 v a (w.setCell ⟨g, j, none⟩ u) :=
  ⟨h.os, h.tape, h.output, by simpa [World.setCell] using h.size, fun k hk hn => (Below.heap_setCell _ _ _ _ (by intro e; obtain rfl : k = g := e; exact hn hg)).trans (h.block k hk hn)⟩
theorem Row1.drew {v : Value} {a w : World} (h : Row1 v a w) : Row1 v a w.drew := ⟨h.os, h.tape, h.output, h.size, h.block⟩
theorem Row1.below {v : Value} {w w' : World} {B : Nat} (h : Row1 v w w') (hB : B ≤ w.heap.size) (hv : ∀ k, v.ownBlock = some k → B ≤ k) : Below B w w' :=
  ⟨h.os, h.tape, h.output, h.size, fun k hk => h.block k (by omega) (fun e => by have := hv k e; omega)⟩
/-- What push answers: the row grown. -/
abbrev PushR (w0 : World) (B : Nat) (w w' : World) (v : Value) (e : Ending) (P : List Op5) : Prop := ∃ v' D', e = .returned v' ∧ OwnO w' B v' D' ∧ ReD w0 D' P ∧ Row1 v w w' ∧ (v'.ownBlock = v.ownBlock ∨ ∃ k, v'.ownBlock = some k ∧ w.heap.size ≤ k)

theorem Hid.mk' {p : Prop} (h : p) : Hid p := h
/-- What append finds behind the first region, from whatever world. -/
theorem push6_tail {w0 w : World} {B : Nat} {v : Value} {D : List OV} {P : List Op5} {o : Op5} {sp : Option Addr} {sl sc : Nat} (hB : B ≤ w.heap.size) (hw : Below w0.heap.size w0 w) (hv : OwnO w B v D) (hD : ReD w0 D P) (ho : RN w0 (.slice sp sl sc) o.A) (W1 : World) (h1 : Below w.heap.size w W1) :
    OwnO (W1.alloc (.cells (opC o (.slice sp sl sc)) 33)) B v D ∧ OpAt (W1.alloc (.cells (opC o (.slice sp sl sc)) 33)) W1.heap.size 0 (o.k, o.t, o.v, o.c, (sp, sl, sc)) ∧ B ≤ (W1.alloc (.cells (opC o (.slice sp sl sc)) 33)).heap.size ∧
      ∀ v8 w8, OwnO w8 B v8 (D ++ [(o.k, o.t, o.v, o.c, (sp, sl, sc))]) → (W1.alloc (.cells (opC o (.slice sp sl sc)) 33)).grownBy w8 v.ownBlock → (v8.ownBlock = v.ownBlock ∨ v8.ownBlock = some (W1.alloc (.cells (opC o (.slice sp sl sc)) 33)).heap.size) → PushR w0 B w w8 v (.returned v8) (P ++ [o]) := by
  have b1 : Below w.heap.size w (W1.alloc (.cells (opC o (.slice sp sl sc)) 33)) := h1.alloc h1.size _
  refine ⟨owns_below hv b1, ?_, Nat.le_trans hB b1.size, fun v8 w8 h2 h3 h4 => ⟨v8, _, rfl, h2, forall2_append hD (.cons ⟨rfl, rfl, rfl, rfl, ho⟩ .nil), (Row1.of_below b1).grown h3, h4.imp id (fun e => ⟨_, e, b1.size⟩)⟩⟩
  refine ⟨?_, ?_, ?_, ?_, ?_, ?_, ?_⟩ <;> simp [opC]
set_option maxHeartbeats 4000000 in
set_option maxRecDepth 100000 in
theorem push6_nil {w0 : World} {B : Nat} (v : Value) (D : List OV) (P : List Op5) (o : Op5) (sp : Option Addr) (sl sc : Nat) (w : World) (hB : B ≤ w.heap.size) (hw : Below w0.heap.size w0 w) (hv : OwnO w B v D) (hD : ReD w0 D P) (ho : RN w0 (.slice sp sl sc) o.A) (hl : P.length ≤ 8388608) (hP : P = []) :
    Calls Tryz.prog 60 #[v, opV o (.slice sp sl sc)] w fun e w' => PushR w0 B w w' v e (P ++ [o]) := by
  have hlen := forall2_len hD
  have ba : Below w.heap.size w (w.alloc (.cells (opC o (.slice sp sl sc)) 33)) := (Below.refl _ _).alloc (Nat.le_refl _) _
  have hl33 : D.length ≤ 33554432 := by omega
  have HT : Hid _ := fun W1 h1 => push6_tail hB hw hv hD ho W1 h1
  subst hP
  have hD0 : D = [] := List.eq_nil_of_length_eq_zero (by simpa using hlen)
  subst hD0
  obtain ⟨p, cap, e⟩ := own_slice hv
  obtain rfl : v = .slice p 0 cap := e
  obtain ⟨k, t, ⟨xx, n, u⟩, cc, A⟩ := o
  have HT' : Hid (∀ W1, Below w.heap.size w W1 → _) := HT
  simp only [opC] at ba
  have hba : ∀ q, Below w.heap.size w ((w.alloc (.cells #[.int .i64 k, .string t, .int .i64 xx, .int .i64 n, .string u, .int .i64 cc, .slice sp sl sc] 33)).drewN q) := fun q => below_drewN ba q
  have HBA : Hid (∀ q, Below w.heap.size w ((w.alloc (.cells #[.int .i64 k, .string t, .int .i64 xx, .int .i64 n, .string u, .int .i64 cc, .slice sp sl sc] 33)).drewN q)) := hba
  have HO2 : Hid (∀ q, OpAt (((w.alloc (.cells #[.int .i64 k, .string t, .int .i64 xx, .int .i64 n, .string u, .int .i64 cc, .slice sp sl sc] 33)).drewN q).alloc (.cells #[.int .i64 k, .string t, .int .i64 xx, .int .i64 n, .string u, .int .i64 cc, .slice sp sl sc] 33)) (w.heap.size + 1) 0 (k, t, (xx, n, u), cc, sp, sl, sc)) := fun q => by
    have h := (HT'.out _ (HBA.out q)).2.1
    have e : ((w.alloc (.cells #[.int .i64 k, .string t, .int .i64 xx, .int .i64 n, .string u, .int .i64 cc, .slice sp sl sc] 33)).drewN q).heap.size = w.heap.size + 1 := by show (w.alloc _).heap.size = _; simp
    rw [e] at h
    exact h
  clear hv hD ho hlen ba hw hB HT hl hba
  go_enter Tryz.func60, Tryz.ntmps60
  go_wp2
  go_quiet (fail)
  go_wp2_with (at_builtin; refine wpList_append_ops rfl (.tmp 38) (.tmp 40) rfl B (.slice p 0 cap) [] rfl (HT'.out _ (HBA.out _)).1 _ 1 _ rfl (HO2.out _) hl33 (HT'.out _ (HBA.out _)).2.2.1 ?_; intro v8 w8 own8 gr8 hat8; have HQ : Hid (PushR w0 B w w8 (.slice p 0 cap) (.returned v8) ([] ++ [_])) := (HT'.out _ (HBA.out _)).2.2.2 v8 w8 own8 gr8 hat8; clear own8 gr8 hat8 HT' HBA HO2)
  go_ret
  exact HQ.out
set_option maxHeartbeats 4000000 in
set_option maxRecDepth 100000 in
theorem push6_kind {w0 : World} {B : Nat} (v : Value) (D : List OV) (P : List Op5) (o : Op5) (sp : Option Addr) (sl sc : Nat) (w : World) (hB : B ≤ w.heap.size) (hw : Below w0.heap.size w0 w) (hv : OwnO w B v D) (hD : ReD w0 D P) (ho : RN w0 (.slice sp sl sc) o.A) (hl : P.length ≤ 8388608) (F : List Op5) (x : Op5) (hP : P = F ++ [x]) (hx : x.k ≠ o.k ∨ o.k = 2) :
    Calls Tryz.prog 60 #[v, opV o (.slice sp sl sc)] w fun e w' => PushR w0 B w w' v e (P ++ [o]) := by
  have hlen := forall2_len hD
  have ba : Below w.heap.size w (w.alloc (.cells (opC o (.slice sp sl sc)) 33)) := (Below.refl _ _).alloc (Nat.le_refl _) _
  have hl33 : D.length ≤ 33554432 := by omega
  have HT : Hid _ := fun W1 h1 => push6_tail hB hw hv hD ho W1 h1
  subst hP
  obtain ⟨FD, d, rfl, hFD, hxd⟩ : ∃ FD d, D = FD ++ [d] ∧ ReD w0 FD F ∧ ((d.1 = x.k ∧ d.2.1 = x.t ∧ d.2.2.1 = x.v ∧ d.2.2.2.1 = x.c) ∧ RN w0 (slV d.2.2.2.2) x.A) := by
    rcases List.eq_nil_or_concat D with rfl | ⟨FD, d, rfl⟩
    · have := forall2_len hD; simp at this
    · rw [List.concat_eq_append] at hD ⊢
      have hl' : FD.length = F.length := by have := forall2_len hD; simpa using this
      obtain ⟨h1, h2⟩ := forall2_unappend hl' hD
      cases h2 with
      | cons a _ => exact ⟨FD, d, rfl, h1, ⟨a.1, a.2.1, a.2.2.1, a.2.2.2.1⟩, a.2.2.2.2⟩
  obtain ⟨⟨f1, f2, f3, f4⟩, hrx⟩ := hxd
  have hFl := forall2_len hFD
  obtain ⟨g, cap, rfl⟩ : ∃ g cap, v = .slice (some ⟨g, 0, none⟩) (FD.length + 1) cap := by
    rcases hv.2 with ⟨_, h0⟩ | ⟨g, cap, cur, e, _⟩
    · simp at h0
    · exact ⟨g, cap, by rw [e]; simp⟩
  have hv2 : w.ownsRow B 33 7 (.slice (some ⟨g, 0, none⟩) (FD.length + 1) cap) (FD.length + 1) (cellsO (FD ++ [d])) := by
    have h := hv
    unfold OwnO at h
    rw [show (FD ++ [d]).length = FD.length + 1 by simp] at h
    exact h
  have hat := own_opAt hv2 FD.length d (by simp)
  rw [Nat.zero_add] at hat
  obtain ⟨m, hm⟩ : ∃ m, FD.length = m := ⟨_, rfl⟩
  have c0 := hat.c0
  rw [f1] at c0
  rw [hm] at c0 HT ⊢
  obtain ⟨xk, hxk⟩ : ∃ z, x.k = z := ⟨_, rfl⟩
  rw [hxk] at c0 hx
  obtain ⟨k, t, ⟨xx, n, u⟩, cc, A⟩ := o
  have HT' : Hid (∀ W1, Below w.heap.size w W1 → _) := HT
  simp only [opC] at ba hx
  have c0' : (w.alloc (.cells #[.int .i64 k, .string t, .int .i64 xx, .int .i64 n, .string u, .int .i64 cc, .slice sp sl sc] 33)).cell? ⟨g, m * 7, none⟩ = some (.int .i64 xk) := (ba.cell (lt_of_cell c0)).trans c0
  have hgw : g < w.heap.size := lt_of_cell c0
  have hne : ¬ g = w.heap.size := by omega
  have HBA : Hid (∀ q, Below w.heap.size w ((w.alloc (.cells #[.int .i64 k, .string t, .int .i64 xx, .int .i64 n, .string u, .int .i64 cc, .slice sp sl sc] 33)).drewN q)) := fun q => below_drewN ba q
  have HO2 : Hid (∀ q, OpAt (((w.alloc (.cells #[.int .i64 k, .string t, .int .i64 xx, .int .i64 n, .string u, .int .i64 cc, .slice sp sl sc] 33)).drewN q).alloc (.cells #[.int .i64 k, .string t, .int .i64 xx, .int .i64 n, .string u, .int .i64 cc, .slice sp sl sc] 33)) (w.heap.size + 1) 0 (k, t, (xx, n, u), cc, sp, sl, sc)) := fun q => by
    have h := (HT'.out _ (HBA.out q)).2.1
    have e : ((w.alloc (.cells #[.int .i64 k, .string t, .int .i64 xx, .int .i64 n, .string u, .int .i64 cc, .slice sp sl sc] 33)).drewN q).heap.size = w.heap.size + 1 := by show (w.alloc _).heap.size = _; simp
    rw [e] at h
    exact h
  have hz : (((m : Int) + 1) == 0) = false := by rw [beq_eq_false_iff_ne]; omega
  have hd1 : ((m : Int) + 1) - 1 = (m : Int) := by omega
  have hmz : (0 : Int) ≤ (m : Int) := by omega
  have hml : m ≤ 8388608 := by simp at hl; omega
  have hmlt : (m : Int) < (m : Int) + 1 := by omega
  clear hv hD ho hlen ba hw hB HT hl hv2 hat hFD hFl f1 f2 f3 f4 hrx hm hxk c0
  by_cases hk : xk = k
  · obtain rfl : k = 2 := hx.resolve_left (fun h => h hk)
    subst hk
    go_enter Tryz.func60, Tryz.ntmps60
    go_wp2
    go_quiet (fail)
    go_wp2_with (at_builtin; refine wpList_append_ops rfl (.tmp 38) (.tmp 40) rfl B _ (FD ++ [d]) rfl (HT'.out _ (HBA.out _)).1 _ 1 _ rfl (HO2.out _) hl33 (HT'.out _ (HBA.out _)).2.2.1 ?_; intro v8 w8 own8 gr8 hat8; have HQ := Hid.mk' ((HT'.out _ (HBA.out _)).2.2.2 v8 w8 own8 gr8 hat8); clear own8 gr8 hat8 HT' HBA HO2)
    go_ret
    exact HQ.out
  · have hkb : (xk != k) = true := by simpa using hk
    clear hx hk
    go_enter Tryz.func60, Tryz.ntmps60
    go_wp2
    go_quiet (fail)
    go_wp2_with (at_builtin; refine wpList_append_ops rfl (.tmp 38) (.tmp 40) rfl B _ (FD ++ [d]) rfl (HT'.out _ (HBA.out _)).1 _ 1 _ rfl (HO2.out _) hl33 (HT'.out _ (HBA.out _)).2.2.1 ?_; intro v8 w8 own8 gr8 hat8; have HQ := Hid.mk' ((HT'.out _ (HBA.out _)).2.2.2 v8 w8 own8 gr8 hat8); clear own8 gr8 hat8 HT' HBA HO2)
    go_ret
    exact HQ.out
set_option maxHeartbeats 4000000 in
set_option maxRecDepth 100000 in
theorem push6_same {w0 : World} {B : Nat} (v : Value) (D : List OV) (P : List Op5) (o : Op5) (sp : Option Addr) (sl sc : Nat) (w : World) (hB : B ≤ w.heap.size) (hw : Below w0.heap.size w0 w) (hv : OwnO w B v D) (hD : ReD w0 D P) (ho : RN w0 (.slice sp sl sc) o.A) (hl : P.length ≤ 8388608) (F : List Op5) (x : Op5) (hP : P = F ++ [x]) (hx : x.k = o.k) (h2 : o.k ≠ 2) (hn1 : x.A.length ≤ 2097152) (hn2 : o.A.length ≤ 2097152) (hsz : x.t.size + o.t.size ≤ 16777216) (hcc : 0 ≤ x.c ∧ 0 ≤ o.c ∧ x.c + o.c ≤ 4398046511104) :
    Calls Tryz.prog 60 #[v, opV o (.slice sp sl sc)] w fun e w' => PushR w0 B w w' v e (if x.A = o.A then F ++ [jnO x o] else P ++ [o]) := by
  have hlen := forall2_len hD
  have ba : Below w.heap.size w (w.alloc (.cells (opC o (.slice sp sl sc)) 33)) := (Below.refl _ _).alloc (Nat.le_refl _) _
  have hl33 : D.length ≤ 33554432 := by omega
  have HT : Hid _ := fun W1 h1 => push6_tail hB hw hv hD ho W1 h1
  subst hP
  obtain ⟨FD, d, rfl, hFD, hxd⟩ : ∃ FD d, D = FD ++ [d] ∧ ReD w0 FD F ∧ ((d.1 = x.k ∧ d.2.1 = x.t ∧ d.2.2.1 = x.v ∧ d.2.2.2.1 = x.c) ∧ RN w0 (slV d.2.2.2.2) x.A) := by
    rcases List.eq_nil_or_concat D with rfl | ⟨FD, d, rfl⟩
    · have := forall2_len hD; simp at this
    · rw [List.concat_eq_append] at hD ⊢
      have hl' : FD.length = F.length := by have := forall2_len hD; simpa using this
      obtain ⟨h1, h2⟩ := forall2_unappend hl' hD
      cases h2 with
      | cons a _ => exact ⟨FD, d, rfl, h1, ⟨a.1, a.2.1, a.2.2.1, a.2.2.2.1⟩, a.2.2.2.2⟩
  obtain ⟨⟨f1, f2, f3, f4⟩, hrx⟩ := hxd
  have hFl := forall2_len hFD
  obtain ⟨g, cap, rfl⟩ : ∃ g cap, v = .slice (some ⟨g, 0, none⟩) (FD.length + 1) cap := by
    rcases hv.2 with ⟨_, h0⟩ | ⟨g, cap, cur, e, _⟩
    · simp at h0
    · exact ⟨g, cap, by rw [e]; simp⟩
  have hv2 : w.ownsRow B 33 7 (.slice (some ⟨g, 0, none⟩) (FD.length + 1) cap) (FD.length + 1) (cellsO (FD ++ [d])) := by
    have h := hv
    unfold OwnO at h
    rw [show (FD ++ [d]).length = FD.length + 1 by simp] at h
    exact h
  have hat := own_opAt hv2 FD.length d (by simp)
  rw [Nat.zero_add] at hat
  obtain ⟨m, hm⟩ : ∃ m, FD.length = m := ⟨_, rfl⟩
  have CS : Hid (∀ W, Below w.heap.size w W → Calls Tryz.prog 104 #[slV d.2.2.2.2, .slice sp sl sc] W fun r w' => r = .returned (.bool (decide (x.A = o.A))) ∧ Below W.heap.size W w') := fun W hW => refSame_any _ _ x.A o.A W ((hrx.below hw).below hW).row ((ho.below hw).below hW).row (by omega) (by omega)
  have HJ : Hid (x.A = o.A → ∀ W, Below w.heap.size w W → PushR w0 B w ((W.setCell ⟨g, m * 7 + 1, none⟩ (.string (x.t ++ o.t))).setCell ⟨g, m * 7 + 5, none⟩ (.int .i64 (x.c + o.c))).drew.drew (.slice (some ⟨g, 0, none⟩) (FD.length + 1) cap) (.returned (.slice (some ⟨g, 0, none⟩) (FD.length + 1) cap)) (F ++ [jnO x o]) ∧ W.frozen? ⟨g, m * 7 + 1, none⟩ = false ∧ W.frozen? ⟨g, m * 7 + 5, none⟩ = false) := fun hA W hW => by
    have hvW : OwnO W B (.slice (some ⟨g, 0, none⟩) (FD.length + 1) cap) (FD ++ [d]) := owns_below hv hW
    have hj := own_joinO hvW (x.t ++ o.t) (x.c + o.c)
    rw [hm] at hj
    obtain ⟨_, cur, hcur⟩ := owns_block hvW g rfl
    refine ⟨⟨.slice (some ⟨g, 0, none⟩) (FD.length + 1) cap, FD ++ [(d.1, x.t ++ o.t, d.2.2.1, x.c + o.c, d.2.2.2.2)], rfl, ?_, forall2_append hFD (.cons ⟨f1, rfl, f3, rfl, hrx⟩ .nil), ?_, Or.inl rfl⟩, frozen_of_heap hcur _, frozen_of_heap hcur _⟩
    · rw [hm]; exact hj
    · exact (((Row1.of_below hW).setCell rfl _ _).setCell rfl _ _).drew.drew
  have c0 := hat.c0
  have c1 := hat.c1
  have c5 := hat.c5
  have c6 := hat.c6
  rw [f1, hx] at c0
  rw [f2] at c1
  rw [f4] at c5
  rw [hm] at c0 c1 c5 c6 HT HJ ⊢
  obtain ⟨xt, hxt⟩ : ∃ z, x.t = z := ⟨_, rfl⟩
  obtain ⟨xc, hxc⟩ : ∃ z, x.c = z := ⟨_, rfl⟩
  rw [hxt] at c1 HJ hsz
  rw [hxc] at c5 HJ hcc
  obtain ⟨⟨xp, xl, xcap⟩, hxs⟩ : ∃ z, d.2.2.2.2 = z := ⟨_, rfl⟩
  rw [hxs] at c6 CS
  simp only [slV] at c6 CS
  obtain ⟨q, hq⟩ : ∃ q, decide (x.A = o.A) = q := ⟨_, rfl⟩
  rw [hq] at CS
  have HQ : Hid (decide (x.A = o.A) = q) := hq
  have hgw : g < w.heap.size := lt_of_cell c0
  obtain ⟨k, t, ⟨xx, n, u⟩, cc, A⟩ := o
  have HT' : Hid (∀ W1, Below w.heap.size w W1 → _) := HT
  simp only [opC] at ba
  simp only at hcc hsz h2 c0 HJ HQ ⊢
  obtain ⟨hc1, hc2, hc3⟩ := hcc
  have hz : (((m : Int) + 1) == 0) = false := by rw [beq_eq_false_iff_ne]; omega
  have hd1 : ((m : Int) + 1) - 1 = (m : Int) := by omega
  have hmz : (0 : Int) ≤ (m : Int) := by omega
  have hk2 : (k == 2) = false := by simpa using h2
  have hw1 : IntKind.i64.wrap (m : Int) = (m : Int) := IntWalk.i64_in _ (by simp at hl; omega)
  have hw2 : IntKind.i64.wrap ((m : Int) + 1 - 1) = (m : Int) := by rw [hd1]; exact hw1
  have hml : m ≤ 8388608 := by simp at hl; omega
  have hmlt : (m : Int) < (m : Int) + 1 := by omega
  obtain ⟨W1, hW1⟩ : ∃ W, W = w.alloc (.cells #[.int .i64 k, .string t, .int .i64 xx, .int .i64 n, .string u, .int .i64 cc, .slice sp sl sc] 33) := ⟨_, rfl⟩
  rw [← hW1] at ba
  have d0 : W1.cell? ⟨w.heap.size, 0, none⟩ = some (.int .i64 k) := by rw [hW1]; simp
  have d1 : W1.cell? ⟨w.heap.size, 1, none⟩ = some (.string t) := by rw [hW1]; simp
  have d2 : W1.cell? ⟨w.heap.size, 2, none⟩ = some (.int .i64 xx) := by rw [hW1]; simp
  have d3 : W1.cell? ⟨w.heap.size, 3, none⟩ = some (.int .i64 n) := by rw [hW1]; simp
  have d4 : W1.cell? ⟨w.heap.size, 4, none⟩ = some (.string u) := by rw [hW1]; simp
  have d5 : W1.cell? ⟨w.heap.size, 5, none⟩ = some (.int .i64 cc) := by rw [hW1]; simp
  have d6 : W1.cell? ⟨w.heap.size, 6, none⟩ = some (.slice sp sl sc) := by rw [hW1]; simp
  have e0 : W1.cell? ⟨g, m * 7, none⟩ = some (.int .i64 k) := (ba.cell (lt_of_cell c0)).trans c0
  have e1 : W1.cell? ⟨g, m * 7 + 1, none⟩ = some (.string xt) := (ba.cell (lt_of_cell c1)).trans c1
  have e5 : W1.cell? ⟨g, m * 7 + 5, none⟩ = some (.int .i64 xc) := (ba.cell (lt_of_cell c5)).trans c5
  have e6 : W1.cell? ⟨g, m * 7 + 6, none⟩ = some (.slice xp xl xcap) := (ba.cell (lt_of_cell c6)).trans c6
  have HU : Hid (∀ w', Below W1.drew.heap.size W1.drew w' → (w'.cell? ⟨g, m * 7, none⟩ = some (.int .i64 k) ∧ w'.cell? ⟨g, m * 7 + 1, none⟩ = some (.string xt) ∧ w'.cell? ⟨g, m * 7 + 5, none⟩ = some (.int .i64 xc) ∧ w'.cell? ⟨g, m * 7 + 6, none⟩ = some (.slice xp xl xcap)) ∧ (w'.cell? ⟨w.heap.size, 0, none⟩ = some (.int .i64 k) ∧ w'.cell? ⟨w.heap.size, 1, none⟩ = some (.string t) ∧ w'.cell? ⟨w.heap.size, 2, none⟩ = some (.int .i64 xx) ∧ w'.cell? ⟨w.heap.size, 3, none⟩ = some (.int .i64 n) ∧ w'.cell? ⟨w.heap.size, 4, none⟩ = some (.string u) ∧ w'.cell? ⟨w.heap.size, 5, none⟩ = some (.int .i64 cc) ∧ w'.cell? ⟨w.heap.size, 6, none⟩ = some (.slice sp sl sc))) := fun w' hb => ⟨⟨(hb.cell (lt_of_cell (w := W1.drew) e0)).trans e0, (hb.cell (lt_of_cell (w := W1.drew) e1)).trans e1, (hb.cell (lt_of_cell (w := W1.drew) e5)).trans e5, (hb.cell (lt_of_cell (w := W1.drew) e6)).trans e6⟩, (hb.cell (lt_of_cell (w := W1.drew) d0)).trans d0, (hb.cell (lt_of_cell (w := W1.drew) d1)).trans d1, (hb.cell (lt_of_cell (w := W1.drew) d2)).trans d2, (hb.cell (lt_of_cell (w := W1.drew) d3)).trans d3, (hb.cell (lt_of_cell (w := W1.drew) d4)).trans d4, (hb.cell (lt_of_cell (w := W1.drew) d5)).trans d5, (hb.cell (lt_of_cell (w := W1.drew) d6)).trans d6⟩
  have cs := CS.out W1.drew ba.drew
  have hne : ¬ g = w.heap.size := by omega
  have hne' : ¬ w.heap.size = g := by omega
  have hbs : w.heap.size ≤ W1.drew.heap.size := ba.size
  clear hv hD ho hlen hw hB HT hl hv2 hat hFD hFl f1 f2 f3 f4 hrx hm hxt hxc hxs hq CS c0 c1 c5 c6 h2 hx hn1 hn2
  go_enter Tryz.func60, Tryz.ntmps60
  go_upto_region 2 with fail
  rw [← hW1]
  clear hW1
  go_region_held3 (fun w' => ((w'.cell? ⟨g, m * 7, none⟩ = some (.int .i64 k) ∧ w'.cell? ⟨g, m * 7 + 1, none⟩ = some (.string xt) ∧ w'.cell? ⟨g, m * 7 + 5, none⟩ = some (.int .i64 xc) ∧ w'.cell? ⟨g, m * 7 + 6, none⟩ = some (.slice xp xl xcap)) ∧ (w'.cell? ⟨w.heap.size, 0, none⟩ = some (.int .i64 k) ∧ w'.cell? ⟨w.heap.size, 1, none⟩ = some (.string t) ∧ w'.cell? ⟨w.heap.size, 2, none⟩ = some (.int .i64 xx) ∧ w'.cell? ⟨w.heap.size, 3, none⟩ = some (.int .i64 n) ∧ w'.cell? ⟨w.heap.size, 4, none⟩ = some (.string u) ∧ w'.cell? ⟨w.heap.size, 5, none⟩ = some (.int .i64 cc) ∧ w'.cell? ⟨w.heap.size, 6, none⟩ = some (.slice sp sl sc))) ∧ Below w.heap.size w w')
    (exact ⟨by first | (with_reducible assumption) | (simp [*]; done), by first | (with_reducible assumption) | exact ba.drew⟩)
    (first | (go_at_call 104; refine cs.mono ?_; rintro r wD ⟨rfl, bD⟩; have jD : Below w.heap.size w wD := ba.drew.trans (bD.mono hbs); have mmD := HU.out _ bD))
  clear cs HU bD d0 d1 d2 d3 d4 d5 d6 e0 e1 e5 e6 ba
  obtain ⟨⟨e0, e1, e5, e6⟩, d0, d1, d2, d3, d4, d5, d6⟩ := mmD
  cases q with
  | true =>
    have hAA := of_decide_eq_true HQ.out
    obtain ⟨y1, y2, y3⟩ := HJ.out hAA wD jD
    have HY : Hid _ := y1
    have HAA := Hid.mk' hAA
    clear HJ HT' HQ hAA y1
    have e1d : wD.drew.cell? ⟨g, m * 7 + 1, none⟩ = some (.string xt) := e1
    go_wp2
    go_region
    all_goals go_wp2
    all_goals go_region
    all_goals go_wp2
    all_goals (go_ret; first | exact HY.out | (rw [if_pos HAA.out]; exact HY.out))
  | false =>
    have hAA := of_decide_eq_false HQ.out
    have HAA := Hid.mk' hAA
    have HBA : Hid (Below w.heap.size w wD) := jD
    clear HJ HQ hAA e0 e1 e5 e6 jD
    go_wp2_with (at_builtin; refine wpList_append_ops rfl (.tmp 38) (.tmp 40) rfl B _ (FD ++ [d]) rfl (HT'.out _ HBA.out).1 _ 1 _ rfl (HT'.out _ HBA.out).2.1 hl33 (HT'.out _ HBA.out).2.2.1 ?_; intro v8 w8 own8 gr8 hat8; have HQ := Hid.mk' ((HT'.out _ HBA.out).2.2.2 v8 w8 own8 gr8 hat8); clear own8 gr8 hat8 HT' HBA)
    go_ret
    have hq := HQ.out
    rw [List.append_assoc] at hq
    exact hq
end Go.Proofs.YtalfdjglbbmjcaaGreatDoor

/- The document's deltas: Canonical: the canonical list of operations. -/
namespace Go.Proofs.YtalfdjglbbmjcaaGreatDoor
open Go Go.RowKit Go.Lib
set_option linter.unusedVariables false

set_option maxHeartbeats 1000000 in
theorem plain6_any (o : Op5) (p : Option Addr) (l c : Nat) (w : World) (hl : l = o.A.length) : Calls Tryz.prog 61 #[opV o (.slice p l c)] w fun r w' => r = .returned (.bool (plainR o)) ∧ Below w.heap.size w w' := by
  have hp : plainR o = (o.k == 3 && decide (l = 0)) := by
    unfold plainR
    rw [hl]
    cases o.A <;> simp
  rw [hp]
  obtain ⟨k, t, ⟨x, n, u⟩, cc, A⟩ := o
  simp only
  clear hp hl
  by_cases k3 : k = 3
  · subst k3
    have hz : ((l : Int) == 0) = decide (l = 0) := by rw [Bool.eq_iff_iff]; simp
    go_enter Tryz.func61, Tryz.ntmps61
    go_wp2
    go_ret
    exact ⟨by simp, by go_grown⟩
  · have e3 : (k == 3) = false := by simpa using k3
    rw [e3]
    go_enter Tryz.func61, Tryz.ntmps61
    go_wp2
    go_ret
    exact ⟨rfl, by go_grown⟩
/-- push, whatever comes. -/
theorem push6_any {w0 : World} {B : Nat} (v : Value) (D : List OV) (P : List Op5) (o : Op5) (sp : Option Addr) (sl sc : Nat) (w : World) (hB : B ≤ w.heap.size) (hw : Below w0.heap.size w0 w) (hv : OwnO w B v D) (hD : ReD w0 D P) (ho : RN w0 (.slice sp sl sc) o.A) (hl : P.length ≤ 4194304) (hP : ∀ x ∈ P, Wel x ∧ x.A.length ≤ 2097152 ∧ x.t.size ≤ 8388608 ∧ x.c ≤ 2199023255552) (how : Wel o) (hn2 : o.A.length ≤ 2097152) (hot : o.t.size ≤ 8388608) (hoc : o.c ≤ 2199023255552) :
    Calls Tryz.prog 60 #[v, opV o (.slice sp sl sc)] w fun e w' => PushR w0 B w w' v e (pushL P o) := by
  rcases List.eq_nil_or_concat P with rfl | ⟨F, x, rfl⟩
  · exact push6_nil v D [] o sp sl sc w hB hw hv hD ho (by simp) rfl
  · rw [List.concat_eq_append] at hD hl hP ⊢
    obtain ⟨hx1, hx2, hx3, hx4⟩ := hP x (List.mem_append_right _ (List.mem_singleton.2 rfl))
    by_cases h1 : x.k ≠ o.k ∨ o.k = 2
    · rw [push_apart (by rcases h1 with h | h; exact Or.inl h; exact Or.inr (Or.inl h))]
      exact push6_kind v D _ o sp sl sc w hB hw hv hD ho (by omega) F x rfl h1
    · have hk : x.k = o.k := Decidable.byContradiction fun h => h1 (Or.inl h)
      have h2 : o.k ≠ 2 := fun h => h1 (Or.inr h)
      have hcx : 0 ≤ x.c := by
        rcases hx1.kinds with h | h | h | h
        · rw [(hx1.resolve_right (by rintro (⟨a, _⟩ | ⟨a, _⟩) <;> omega)).1.count]; omega
        · omega
        · have := hx1.count (Or.inl h); omega
        · have := hx1.count (Or.inr h); omega
      have hco : 0 ≤ o.c := by
        rcases how.kinds with h | h | h | h
        · rw [(how.resolve_right (by rintro (⟨a, _⟩ | ⟨a, _⟩) <;> omega)).1.count]; omega
        · omega
        · have := how.count (Or.inl h); omega
        · have := how.count (Or.inr h); omega
      have h := push6_same v D _ o sp sl sc w hB hw hv hD ho (by omega) F x rfl hk h2 hx2 hn2 (by omega) ⟨hcx, hco, by omega⟩
      by_cases hA : x.A = o.A
      · rw [if_pos hA] at h
        rw [push_join (by rintro (e | e | e); exact e hk; exact h2 e; exact e hA)]
        exact h
      · rw [if_neg hA] at h
        rw [push_apart (Or.inr (Or.inr hA))]
        exact h
end Go.Proofs.YtalfdjglbbmjcaaGreatDoor

/- Canonical lists of operations in order are in order. -/
namespace Go.Proofs.YtalfdjglbbmjcaaGreatDoor
open Go Go.RowKit Go.Lib
set_option linter.unusedVariables false

theorem trim_sub (P : List Op5) : (∀ x ∈ trimL P, x ∈ P) ∧ txtS (trimL P) ≤ txtS P ∧ (trimL P).length ≤ P.length := by
  rcases List.eq_nil_or_concat P with rfl | ⟨F, x, rfl⟩
  · exact ⟨fun x h => h, Nat.le_refl _, Nat.le_refl _⟩
  · rw [List.concat_eq_append]
    have e : trimL (F ++ [x]) = if plainR x then F else F ++ [x] := by
      unfold trimL
      rw [List.getLast?_concat, List.dropLast_concat]
    rw [e]
    split
    · exact ⟨fun y h => List.mem_append_left _ h, by rw [txtS_append]; omega, by simp⟩
    · exact ⟨fun y h => h, Nat.le_refl _, Nat.le_refl _⟩
/-- The canonical list of operations in order is in order, and no greater. -/
theorem canon_ok {E : List Op5} (h : OkE E) : OkE (canonL E) ∧ txtS (canonL E) ≤ txtS E ∧ (canonL E).length ≤ E.length := by
  have hz : BSz (bldR E) E.length (txtS E) := by
    have := bldR_sz E BSz.nil h.fit
    rw [Nat.zero_add, Nat.zero_add] at this
    exact this
  obtain ⟨c1, c2, c3, c4⟩ := canon_spec h.wel
  obtain ⟨s1, s2⟩ := canon_sums h.wel
  have key : (∀ x ∈ canonL E, FitA x) ∧ txtS (canonL E) ≤ txtS E ∧ (canonL E).length ≤ E.length := by
    rw [← finB_canon h.wel]
    obtain ⟨a, b, c⟩ := hz.set
    have a2 := hz.fit
    have b2 := hz.txt
    have c2 := hz.len
    unfold finB
    by_cases h0 : 0 < (bldR E).2
    · rw [if_pos h0]
      unfold setB at a b c
      rw [if_pos h0] at a b c
      exact ⟨a, b, c⟩
    · rw [if_neg h0]
      obtain ⟨t1, t2, t3⟩ := trim_sub (bldR E).1
      exact ⟨fun x hx => a2 x (t1 x hx), by omega, by omega⟩
  have hb := h.base
  have hr := h.res
  have ht := h.txt
  have hl := h.len
  exact ⟨⟨wel_good c1 (by omega), key.1, by omega, by omega, by omega, by omega⟩, key.2⟩
theorem OkE.okR {E : List Op5} (h : OkE E) (hl : E.length ≤ 2097152) : OkR E := ⟨fun o ho => (h.fit o ho).n, hl⟩
theorem OkE.fitL {E : List Op5} (h : OkE E) : FitL E := fitA_all h.fit h.txt
/-- A list that isn't large. -/
theorem small_of {E : List Op5} (h : decide (60000 < larN E) = false) : txtS E ≤ 60000 ∧ E.length ≤ 6000 ∧ ∀ o ∈ E, o.A.length ≤ 6000 := by
  have h1 := of_decide_eq_false h
  have h2 := larN_txt E
  exact ⟨by omega, by omega, fun o ho => by have := larN_mem ho; omega⟩
/-- What a loop over a list of the call's own and over a row of pieces reads. -/
theorem both_read {w : World} {B1 B2 : Nat} {v1 v2 : Value} {P : List Value} {C : List Op5} (h1 : CoO w B1 v1 C) (h2 : OwnI w B2 v2 P) (h3 : PieD w B2 P C) :
    ∃ p1 c1 p2 c2, v1 = .slice p1 C.length c1 ∧ v2 = .slice p2 C.length c2 ∧ ∀ m, m < C.length → ∃ (e : Op5) (d : OV) (b ga : Nat) (s : Value), C[m]? = some e ∧ p1 = some ⟨b, 0, none⟩ ∧ OpAt w b (0 + m * 7) d ∧ ovV d = opV e (slV d.2.2.2.2) ∧ d.1 = e.k ∧ OwnA w B1 (slV d.2.2.2.2) e.A ∧ p2 = some ⟨ga, 0, none⟩ ∧ w.cell? ⟨ga, m, none⟩ = some (pieceQ e s) ∧ OwnA w B2 s e.A := by
  obtain ⟨D, hD, hO⟩ := h1
  have hl1 := forall2_len hO
  have hl2 := forall2_len h3
  obtain ⟨p1, c1, e1⟩ := own_slice hD
  obtain ⟨p2, c2, e2⟩ := own_slice h2
  refine ⟨p1, c1, p2, c2, by rw [e1, hl1], by rw [e2, hl2], fun m hm => ?_⟩
  obtain ⟨ga, c, x, hv', hB, hx, hc⟩ := own_cell h2 m (by omega)
  obtain ⟨e, s, he, rfl, hs⟩ := oneI h3 hx
  rw [e2] at hv'
  simp only [Value.slice.injEq] at hv'
  have hd : D[m]? = some (D[m]'(by omega)) := List.getElem?_eq_getElem (by omega)
  obtain ⟨y, hy, r⟩ := forall2_get hO m _ hd
  obtain rfl : y = e := Option.some.inj (hy.symm.trans he)
  rcases hD.2 with ⟨_, h0⟩ | ⟨g, cap, cur, e3, _, _, _, _, _, _⟩
  · omega
  · rw [e1] at e3
    simp only [Value.slice.injEq] at e3
    have hD' := hD
    unfold OwnO at hD'
    rw [e1, e3.1] at hD'
    have hat := own_opAt hD' m _ hd
    exact ⟨y, D[m]'(by omega), g, ga, s, he, e3.1, hat, opV_of ⟨r.1, r.2.1, r.2.2.1, r.2.2.2.1, own_RN r.2.2.2.2⟩, r.1, r.2.2.2.2, hv'.1, hc, hs⟩
end Go.Proofs.YtalfdjglbbmjcaaGreatDoor

/- The canonical list while it is made: sizes. -/
namespace Go.Proofs.YtalfdjglbbmjcaaGreatDoor
open Go Go.RowKit Go.Lib
set_option linter.unusedVariables false

theorem base_jn {x o : Op5} (hk : x.k = o.k) : baseO (jnO x o) = baseO x + baseO o ∨ o.k = 1 ∨ o.k = 2 := by
  by_cases h : o.k = 3 ∨ o.k = 4
  · left
    rw [base_3 h, base_3 (o := x) (by omega), base_3 (o := jnO x o) (by show x.k = 3 ∨ x.k = 4; omega)]
    rfl
  · by_cases h1 : o.k = 1
    · exact Or.inr (Or.inl h1)
    · by_cases h2 : o.k = 2
      · exact Or.inr (Or.inr h2)
      · left
        have e : ∀ y : Op5, y.k = o.k → baseO y = 0 := fun y hy => by unfold baseO; rw [if_neg (by omega)]
        rw [e x hk, e o rfl, e (jnO x o) hk]; rfl
/-- Lists of operations put together bit by bit: sizes. -/
structure PQ (P : List Op5) (T : Nat) (S : Int) (L : Nat) : Prop where
  wel : ∀ x ∈ P, Wel x ∧ x.A.length ≤ 1048576
  txt : txtS P ≤ T
  sum : sumB P ≤ S
  len : P.length ≤ L
theorem PQ.push {P : List Op5} {T L : Nat} {S : Int} {o : Op5} (h : PQ P T S L) (ho : Wel o) (hA : o.A.length ≤ 1048576) : PQ (pushL P o) (T + o.t.size) (S + baseO o) (L + 1) := by
  obtain ⟨s1, s2⟩ := push_size P o
  have h1 := h.txt
  have h2 := h.len
  have h3 := h.sum
  refine ⟨?_, by omega, ?_, by omega⟩
  · rcases List.eq_nil_or_concat P with rfl | ⟨F, x, rfl⟩
    · rw [push_nil]; intro y hy; rw [List.mem_singleton.1 hy]; exact ⟨ho, hA⟩
    · rw [List.concat_eq_append] at h ⊢
      by_cases hj : x.k ≠ o.k ∨ o.k = 2 ∨ x.A ≠ o.A
      · rw [push_apart hj]
        intro y hy
        rcases List.mem_append.1 hy with hy | hy
        · exact h.wel y hy
        · rw [List.mem_singleton.1 hy]; exact ⟨ho, hA⟩
      · rw [push_join hj]
        have hx := h.wel x (List.mem_append_right _ (List.mem_singleton.2 rfl))
        have hk : x.k = o.k := Decidable.byContradiction fun e => hj (Or.inl e)
        have h2' : o.k ≠ 2 := fun e => hj (Or.inr (Or.inl e))
        have hA' : x.A = o.A := Decidable.byContradiction fun e => hj (Or.inr (Or.inr e))
        intro y hy
        rcases List.mem_append.1 hy with hy | hy
        · exact h.wel y (List.mem_append_left _ hy)
        · rw [List.mem_singleton.1 hy]
          exact ⟨(join_wel hx.1 ho hk h2' hA').1, hx.2⟩
  · rcases List.eq_nil_or_concat P with rfl | ⟨F, x, rfl⟩
    · rw [push_nil, sumB_one]; have : sumB ([] : List Op5) = 0 := rfl; omega
    · rw [List.concat_eq_append] at h3 ⊢
      by_cases hj : x.k ≠ o.k ∨ o.k = 2 ∨ x.A ≠ o.A
      · rw [push_apart hj, sumB_append, sumB_one]; omega
      · rw [push_join hj, sumB_append, sumB_one]
        rw [sumB_append, sumB_one] at h3
        have hk : x.k = o.k := Decidable.byContradiction fun e => hj (Or.inl e)
        rcases base_jn hk with e | e | e
        · rw [e]; omega
        · rw [base_1 (o := jnO x o) (by show x.k = 1 ∨ x.k = 2; omega), base_1 (o := o) (Or.inl e)]
          rw [base_1 (o := x) (by omega)] at h3
          omega
        · exact absurd (Or.inr (Or.inl e)) hj
theorem PQ.up {P : List Op5} {T T' L L' : Nat} {S S' : Int} (h : PQ P T S L) (h1 : T ≤ T') (h2 : S ≤ S') (h3 : L ≤ L') : PQ P T' S' L' := ⟨h.wel, Nat.le_trans h.txt h1, Int.le_trans h.sum h2, Nat.le_trans h.len h3⟩
theorem PQ.fold : ∀ (G : List Op5) {P : List Op5} {T L : Nat} {S : Int}, PQ P T S L → (∀ o ∈ G, (Wel o ∧ o.A.length ≤ 1048576) ∧ (o.k = 1 ∨ o.k = 2)) → PQ (G.foldl pushL P) (T + txtS G) S (L + G.length)
  | [], P, T, L, S, h, _ => h
  | o :: r, P, T, L, S, h, hG => by
    obtain ⟨⟨h1, h2⟩, h3⟩ := hG o (List.mem_cons_self ..)
    have hp := h.push h1 h2
    rw [base_1 h3, Int.add_zero] at hp
    have := PQ.fold r hp (fun x hx => hG x (List.mem_cons_of_mem _ hx))
    have e : txtS (o :: r) = o.t.size + txtS r := by simp [txtS]
    rw [e, List.length_cons]
    exact this.up (by omega) (Int.le_refl _) (by omega)
/-- The document's state behind some operations: sizes. -/
structure RunQ (F : List Op5) (s : List Op5 × List Op5 × Int) : Prop where
  out : ∃ T S L, PQ s.1 T S L ∧ T + txtS s.2.1 ≤ txtS F ∧ S + s.2.2 ≤ sumB F ∧ L + s.2.1.length + (if 0 < s.2.2 then 1 else 0) ≤ F.length
  gap : ∀ o ∈ s.2.1, (Wel o ∧ o.A.length ≤ 1048576) ∧ (o.k = 1 ∨ o.k = 2)
  nn : 0 ≤ s.2.2
theorem RunQ.nil : RunQ [] ([], [], 0) := ⟨⟨0, 0, 0, ⟨fun x h => (by cases h), by simp [txtS], by simp [sumB], by simp⟩, by simp [txtS], by simp [sumB], by simp⟩, fun o h => (by cases h), Int.le_refl 0⟩
theorem flush_q {F : List Op5} {s : List Op5 × List Op5 × Int} (h : RunQ F s) : PQ (flushL s.1 s.2.1 s.2.2) (txtS F) (sumB F) F.length := by
  obtain ⟨⟨T, S, L, h1, h2, h3, h4⟩, h5, h6⟩ := h
  have hf := PQ.fold s.2.1 h1 h5
  unfold flushL
  split
  · rename_i h0
    rw [if_pos h0] at h4
    have := hf.push (delO_wel (n := s.2.2) (by omega)) (by show (0 : Nat) ≤ _; omega)
    rw [base_3 (o := delO s.2.2) (Or.inr rfl)] at this
    exact this.up (by show T + txtS s.2.1 + 0 ≤ _; omega) (by show S + s.2.2 ≤ _; omega) (by omega)
  · exact hf.up (by omega) (by omega) (by omega)
theorem RunQ.step {F : List Op5} {s : List Op5 × List Op5 × Int} {o : Op5} (h : RunQ F s) (ho : Wel o) (hA : o.A.length ≤ 1048576) : RunQ (F ++ [o]) (stepC s o) := by
  have e1 := txtS_append F [o]
  have e2 := sumB_append F [o]
  rw [txtS_one] at e1
  rw [sumB_one] at e2
  have e3 : (F ++ [o]).length = F.length + 1 := by simp
  have hq := flush_q h
  have hn := h.nn
  unfold stepC
  rcases ho.kinds with hk | hk | hk | hk
  · rw [if_pos (Or.inl hk)]
    rw [base_1 (Or.inl hk)] at e2
    obtain ⟨T, S, L, h1, h2, h3, h4⟩ := h.out
    refine ⟨⟨T, S, L, h1, ?_, by show S + s.2.2 ≤ _; omega, ?_⟩, fun x hx => ?_, hn⟩
    · show T + txtS (s.2.1 ++ [o]) ≤ _; rw [txtS_append, txtS_one]; omega
    · show L + (s.2.1 ++ [o]).length + _ ≤ _; rw [List.length_append]; simp only [List.length_singleton]; omega
    · rcases List.mem_append.1 hx with hx | hx
      · exact h.gap x hx
      · rw [List.mem_singleton.1 hx]; exact ⟨⟨ho, hA⟩, Or.inl hk⟩
  · rw [if_pos (Or.inr hk)]
    rw [base_1 (Or.inr hk)] at e2
    obtain ⟨T, S, L, h1, h2, h3, h4⟩ := h.out
    refine ⟨⟨T, S, L, h1, ?_, by show S + s.2.2 ≤ _; omega, ?_⟩, fun x hx => ?_, hn⟩
    · show T + txtS (s.2.1 ++ [o]) ≤ _; rw [txtS_append, txtS_one]; omega
    · show L + (s.2.1 ++ [o]).length + _ ≤ _; rw [List.length_append]; simp only [List.length_singleton]; omega
    · rcases List.mem_append.1 hx with hx | hx
      · exact h.gap x hx
      · rw [List.mem_singleton.1 hx]; exact ⟨⟨ho, hA⟩, Or.inr hk⟩
  · rw [if_neg (by omega), if_neg (by omega)]
    have hp := hq.push ho hA
    exact ⟨⟨_, _, _, hp, by show txtS F + o.t.size + txtS [] ≤ _; rw [show txtS [] = 0 from rfl]; omega, by show sumB F + baseO o + 0 ≤ _; omega, by show F.length + 1 + 0 + (if (0 : Int) < 0 then 1 else 0) ≤ _; simp⟩, fun x hx => (by cases hx), Int.le_refl 0⟩
  · rw [if_neg (by omega), if_pos hk]
    rw [base_3 (Or.inr hk)] at e2
    have hc := ho.count (Or.inr hk)
    obtain ⟨T, S, L, h1, h2, h3, h4⟩ := h.out
    refine ⟨⟨T, S, L, h1, by show T + txtS s.2.1 ≤ _; omega, by show S + (s.2.2 + o.c) ≤ _; omega, ?_⟩, h.gap, by show 0 ≤ s.2.2 + o.c; omega⟩
    show L + s.2.1.length + (if 0 < s.2.2 + o.c then 1 else 0) ≤ _
    rw [if_pos (by omega)]; omega
theorem runC_snoc (F : List Op5) (o : Op5) : runC (F ++ [o]) = stepC (runC F) o := by unfold runC; rw [List.foldl_append]; rfl
theorem runQ_take {E : List Op5} (h : OkE E) : ∀ k, k ≤ E.length → RunQ (E.take k) (runC (E.take k)) := fun k => by
  induction k with
  | zero => intro _; rw [List.take_zero]; exact RunQ.nil
  | succ k ih =>
    intro hk
    have he : E[k]? = some E[k] := List.getElem?_eq_getElem (by omega)
    have hm : E[k] ∈ E := List.getElem_mem _
    rw [List.take_add_one, he, Option.toList_some, runC_snoc]
    exact (ih (by omega)).step (h.wel _ hm) (h.fit _ hm).n
/-- What push asks of the operations ahead. -/
theorem PQ.ask {P : List Op5} {T L : Nat} {S : Int} (h : PQ P T S L) (hT : T ≤ 8388608) (hS : S ≤ 2199023255552) : ∀ x ∈ P, Wel x ∧ x.A.length ≤ 2097152 ∧ x.t.size ≤ 8388608 ∧ x.c ≤ 2199023255552 := fun x hx => by
  obtain ⟨h1, h2⟩ := h.wel x hx
  have h3 := txtS_mem hx
  have h4 := h.txt
  have h5 := h.sum
  have h6 := cnt_le (fun y hy => (h.wel y hy).1) hx
  exact ⟨h1, by omega, by omega, by omega⟩
end Go.Proofs.YtalfdjglbbmjcaaGreatDoor

/- The document's deltas: Canonical. -/
namespace Go.Proofs.YtalfdjglbbmjcaaGreatDoor
open Go Go.RowKit Go.Lib
set_option linter.unusedVariables false

/-- Two rows of the call's own, apart. -/
structure CanS (w0 wc W : World) (vo vg : Value) (PO PG : List Op5) : Prop where
  out : ∃ D, OwnO W wc.heap.size vo D ∧ ReD w0 D PO
  gap : ∃ D, OwnO W wc.heap.size vg D ∧ ReD w0 D PG
  apart : ∀ k, vo.ownBlock = some k → vg.ownBlock ≠ some k
  below : Below wc.heap.size wc W
  base : Below w0.heap.size w0 wc
theorem CanS.keep {w0 wc W W' : World} {vo vg : Value} {PO PG : List Op5} (h : CanS w0 wc W vo vg PO PG) (b : Below W.heap.size W W') : CanS w0 wc W' vo vg PO PG := by
  obtain ⟨D, a1, a2⟩ := h.out
  obtain ⟨G, b1, b2⟩ := h.gap
  exact ⟨⟨D, owns_below a1 b, a2⟩, ⟨G, owns_below b1 b, b2⟩, h.apart, h.below.trans (b.mono h.below.size), h.base⟩
theorem CanS.pushed {w0 wc W W' : World} {vo vg : Value} {PO PG P : List Op5} {e : Ending} (h : CanS w0 wc W vo vg PO PG) (r : PushR w0 wc.heap.size W W' vo e P) : ∃ v', e = .returned v' ∧ CanS w0 wc W' v' vg P PG := by
  obtain ⟨v', D', rfl, h1, h2, h3, h4⟩ := r
  obtain ⟨D, a1, a2⟩ := h.out
  obtain ⟨G, b1, b2⟩ := h.gap
  have hlt : ∀ k, vg.ownBlock = some k → k < W.heap.size := fun k hk => by
    obtain ⟨_, cur, hc⟩ := owns_block b1 k hk
    exact (Array.getElem?_eq_some_iff.1 hc).1
  refine ⟨v', rfl, ⟨D', h1, h2⟩, ⟨G, owns_same b1 fun k hk => h3.block k (hlt k hk) (fun e => h.apart k e hk), b2⟩, fun k hk hg => ?_, ?_, h.base⟩
  · rcases h4 with h4 | ⟨j, h4, h5⟩
    · exact h.apart k (h4 ▸ hk) hg
    · rw [h4] at hk
      obtain rfl : j = k := Option.some.inj hk
      have := hlt j hg
      omega
  · have := h3.below (B := wc.heap.size) h.below.size (fun k hk => (owns_block a1 k hk).1)
    exact h.below.trans this
theorem CanS.gapped {w0 wc W w8 : World} {vo vg v8 : Value} {PO PG : List Op5} {e : Op5} {sp : Option Addr} {sl sc : Nat} (h : CanS w0 wc W vo vg PO PG) {D : List OV} (hD : ReD w0 D PG) (hr : RN w0 (.slice sp sl sc) e.A) (h1 : OwnO w8 wc.heap.size v8 (D ++ [(e.k, e.t, e.v, e.c, (sp, sl, sc))])) (gr : W.grownBy w8 vg.ownBlock) (hat : v8.ownBlock = vg.ownBlock ∨ v8.ownBlock = some W.heap.size) : CanS w0 wc w8 vo v8 PO (PG ++ [e]) := by
  obtain ⟨DO, a1, a2⟩ := h.out
  obtain ⟨G, b1, b2⟩ := h.gap
  have hlt : ∀ k, vo.ownBlock = some k → k < W.heap.size := fun k hk => by
    obtain ⟨_, cur, hc⟩ := owns_block a1 k hk
    exact (Array.getElem?_eq_some_iff.1 hc).1
  refine ⟨⟨DO, owns_same a1 fun k hk => gr.block k (hlt k hk) (fun e => h.apart k hk e.symm), a2⟩, ⟨_, h1, forall2_append hD (.cons ⟨rfl, rfl, rfl, rfl, hr⟩ .nil)⟩, fun k hk hg => ?_, ?_, h.base⟩
  · rcases hat with e | e
    · exact h.apart k hk (e ▸ hg)
    · rw [e] at hg
      obtain rfl : W.heap.size = k := Option.some.inj hg
      have := hlt _ hk
      omega
  · exact h.below.grown gr h.below.size (fun k hk => (owns_block b1 k hk).1)
theorem CanS.cleared {w0 wc W : World} {vo vg : Value} {PO PG : List Op5} (h : CanS w0 wc W vo vg PO PG) : CanS w0 wc W vo (.slice none 0 0) PO [] :=
  ⟨h.out, ⟨[], ⟨rfl, Or.inl ⟨rfl, rfl⟩⟩, .nil⟩, fun k _ h => (by cases h), h.below, h.base⟩
theorem CanS.len {w0 wc W : World} {vo vg : Value} {PO PG : List Op5} (h : CanS w0 wc W vo vg PO PG) : ∃ p c, vg = .slice p PG.length c := by
  obtain ⟨G, b1, b2⟩ := h.gap
  obtain ⟨p, c, e⟩ := own_slice b1
  exact ⟨p, c, by rw [e, forall2_len b2]⟩
theorem CanS.read {w0 wc W : World} {vo : Value} {PO PG : List Op5} {p : Option Addr} {l c : Nat} (h : CanS w0 wc W vo (.slice p l c) PO PG) (j : Nat) (hj : j < PG.length) : ∃ (e : Op5) (b : Nat) (sp : Option Addr) (sl sc : Nat), PG[j]? = some e ∧ p = some ⟨b, 0, none⟩ ∧ OpAt W b (0 + j * 7) (e.k, e.t, e.v, e.c, (sp, sl, sc)) ∧ RN w0 (.slice sp sl sc) e.A := by
  obtain ⟨G, b1, b2⟩ := h.gap
  have hl := forall2_len b2
  obtain ⟨d, hd⟩ : ∃ d, G[j]? = some d := ⟨_, List.getElem?_eq_getElem (by omega)⟩
  obtain ⟨e, he, h1, h2, h3, h4, h5⟩ := forall2_get b2 j d hd
  obtain ⟨dk, dt, dv, dc, sp, sl, sc⟩ := d
  simp only at h1 h2 h3 h4
  subst h1; subst h2; subst h3; subst h4
  obtain ⟨q, cc, hv⟩ := own_slice b1
  rcases b1.2 with ⟨_, h0⟩ | ⟨g, cap, cur, e1, _⟩
  · omega
  · cases e1
    exact ⟨e, g, sp, sl, sc, he, rfl, own_opAt b1 j _ hd, h5⟩
/-- push on the rows. -/
theorem push_can {w0 wc W : World} {vo vg : Value} {PO PG : List Op5} {T L : Nat} {S : Int} (o : Op5) (sp : Option Addr) (sl sc : Nat) (h : CanS w0 wc W vo vg PO PG) (ho : RN w0 (.slice sp sl sc) o.A) (q : PQ PO T S L) (hT : T ≤ 8388608) (hS : S ≤ 2199023255552) (hL : L ≤ 4194304) (how : Wel o) (hn2 : o.A.length ≤ 1048576) (hot : o.t.size ≤ 8388608) (hoc : o.c ≤ 2199023255552) :
    Calls Tryz.prog 60 #[vo, opV o (.slice sp sl sc)] W fun e w' => ∃ v', e = .returned v' ∧ CanS w0 wc w' v' vg (pushL PO o) PG := by
  obtain ⟨D, a1, a2⟩ := h.out
  have hl := q.len
  exact (push6_any vo D PO o sp sl sc W h.below.size (h.base.trans (h.below.mono h.base.size)) a1 a2 ho (by omega) (q.ask hT hS) how (by omega) hot hoc).mono fun e w' r => h.pushed r
/-- The sizes while a gap is put behind. -/
theorem RunQ.fold {F : List Op5} {s : List Op5 × List Op5 × Int} (h : RunQ F s) (j : Nat) : PQ ((s.2.1.take j).foldl pushL s.1) (txtS F) (sumB F) F.length := by
  obtain ⟨⟨T, S, L, h1, h2, h3, h4⟩, h5, h6⟩ := h
  have hf := PQ.fold (s.2.1.take j) h1 (fun o ho => h5 o (List.mem_of_mem_take ho))
  have e1 := txtS_take s.2.1 j
  have e2 : (s.2.1.take j).length ≤ s.2.1.length := by rw [List.length_take]; omega
  exact hf.up (by omega) (by omega) (by split at h4 <;> omega)
/-- The state ahead of the m-th round. -/
def stA (E : List Op5) (m : Nat) : List Op5 × List Op5 × Int := if m ≤ E.length then runC (E.take m) else (flushL (runC E).1 (runC E).2.1 (runC E).2.2, [], 0)
theorem stA_end (E : List Op5) : stA E (E.length + 1) = (flushL (runC E).1 (runC E).2.1 (runC E).2.2, [], 0) := by unfold stA; rw [if_neg (by omega)]
theorem stA_at {E : List Op5} {m : Nat} (h : m ≤ E.length) : stA E m = runC (E.take m) := by unfold stA; rw [if_pos h]
theorem stA_succ {E : List Op5} {m : Nat} {e : Op5} (h : E[m]? = some e) : stA E (m + 1) = stepC (stA E m) e := by
  have hm : m < E.length := (List.getElem?_eq_some_iff.1 h).1
  rw [stA_at (by omega), stA_at (by omega), List.take_add_one, h, Option.toList_some, runC_snoc]
theorem stA_ins {E : List Op5} {m : Nat} {e : Op5} (h : E[m]? = some e) (hk : e.k = 1 ∨ e.k = 2) : stA E (m + 1) = ((stA E m).1, (stA E m).2.1 ++ [e], (stA E m).2.2) := by rw [stA_succ h]; unfold stepC; rw [if_pos hk]
theorem stA_del {E : List Op5} {m : Nat} {e : Op5} (h : E[m]? = some e) (hk : e.k = 4) : stA E (m + 1) = ((stA E m).1, (stA E m).2.1, (stA E m).2.2 + e.c) := by rw [stA_succ h]; unfold stepC; rw [if_neg (by omega), if_pos hk]
theorem stA_ret {E : List Op5} {m : Nat} {e : Op5} (h : E[m]? = some e) (hk : e.k = 3) : stA E (m + 1) = (pushL (flushL (stA E m).1 (stA E m).2.1 (stA E m).2.2) e, [], 0) := by rw [stA_succ h]; unfold stepC; rw [if_neg (by omega), if_neg (by omega)]
theorem trim_nil : trimL [] = [] := rfl
theorem trim_yes {F : List Op5} {x : Op5} (h : plainR x = true) : trimL (F ++ [x]) = F := by unfold trimL; rw [List.getLast?_concat]; simp only; rw [if_pos h, List.dropLast_concat]
theorem trim_no {F : List Op5} {x : Op5} (h : plainR x = false) : trimL (F ++ [x]) = F ++ [x] := by unfold trimL; rw [List.getLast?_concat]; simp only; rw [if_neg (by simp [h])]
/-- The sizes of the state ahead of the m-th round. -/
theorem stA_q {E : List Op5} (h : OkE E) {m : Nat} (hm : m ≤ E.length) : (∀ j, PQ (((stA E m).2.1.take j).foldl pushL (stA E m).1) 8388608 1099511627776 4194304) ∧ PQ (flushL (stA E m).1 (stA E m).2.1 (stA E m).2.2) 8388608 1099511627776 4194304 ∧ (∀ o ∈ (stA E m).2.1, Wel o ∧ o.A.length ≤ 1048576 ∧ o.t.size ≤ 8388608 ∧ o.c ≤ 2199023255552) ∧ 0 ≤ (stA E m).2.2 ∧ (stA E m).2.2 ≤ 1099511627776 ∧ (stA E m).2.1.length ≤ 4194304 := by
  rw [stA_at hm]
  have q := runQ_take h m hm
  have t1 := txtS_take E m
  have t2 := h.txt
  have t3 := h.len
  have t4 : (E.take m).length ≤ E.length := by rw [List.length_take]; omega
  have t5 : sumB (E.take m) ≤ sumB E := by
    have := sumB_append (E.take m) (E.drop m)
    rw [List.take_append_drop] at this
    have := (sums_nn (E := E.drop m) (fun o ho => h.wel o (List.mem_of_mem_drop ho))).1
    omega
  have t6 := h.base
  obtain ⟨⟨T, S, L, h1, h2, h3, h4⟩, h5, h6⟩ := q
  have hS : 0 ≤ S := by
    have := (sums_nn (E := (runC (E.take m)).1) (fun o ho => (h1.wel o ho).1)).1
    have := h1.sum
    omega
  have q := runQ_take h m hm
  refine ⟨fun j => (q.fold j).up (by omega) (by omega) (by omega), (flush_q q).up (by omega) (by omega) (by omega), fun o ho => ?_, h6, by omega, by split at h4 <;> omega⟩
  obtain ⟨⟨a1, a2⟩, a3⟩ := h5 o ho
  have := txtS_mem ho
  refine ⟨a1, a2, by omega, ?_⟩
  rcases a1 with ⟨hi, _⟩ | ⟨b, _⟩ | ⟨b, _⟩
  · rw [hi.count]; omega
  · omega
  · omega
/-- A row of operations in a block from a mark on. -/
def FarO (w : World) (B : Nat) (v : Value) (D : List OV) : Prop :=
  ∃ p cap, v = .slice p D.length cap ∧ D.length ≤ cap ∧ (p = none → cap = 0) ∧ ∀ (j : Nat) (d : OV), D[j]? = some d → ∃ b off, p = some ⟨b, off, none⟩ ∧ B ≤ b ∧ OpAt w b (off + j * 7) d
theorem FarO.row {w : World} {B : Nat} {v : Value} {D : List OV} (h : FarO w B v D) : RowO w v D := by
  obtain ⟨p, cap, h1, h2, h3, h4⟩ := h
  exact ⟨p, cap, h1, h2, h3, fun j d hd => by obtain ⟨b, off, a1, _, a2⟩ := h4 j d hd; exact ⟨b, off, a1, a2⟩⟩
theorem FarO.below {w w' : World} {B : Nat} {v : Value} {D : List OV} (h : FarO w B v D) (hb : Below w.heap.size w w') : FarO w' B v D := by
  obtain ⟨p, cap, h1, h2, h3, h4⟩ := h
  exact ⟨p, cap, h1, h2, h3, fun j d hd => by obtain ⟨b, off, a1, a0, a2⟩ := h4 j d hd; exact ⟨b, off, a1, a0, a2.below hb⟩⟩
theorem FarO.weaken {w : World} {B C : Nat} {v : Value} {D : List OV} (h : FarO w B v D) (hc : C ≤ B) : FarO w C v D := by
  obtain ⟨p, cap, h1, h2, h3, h4⟩ := h
  exact ⟨p, cap, h1, h2, h3, fun j d hd => by obtain ⟨b, off, a1, a0, a2⟩ := h4 j d hd; exact ⟨b, off, a1, Nat.le_trans hc a0, a2⟩⟩
theorem far_own {w : World} {B : Nat} {v : Value} {D F : List OV} {n cap : Nat} {p : Option Addr} (h : OwnO w B v D) (hv : v = .slice p n cap) (hF : ∀ (j : Nat) (d : OV), F[j]? = some d → D[j]? = some d) (hl : F.length ≤ D.length) : FarO w B (.slice p F.length cap) F := by
  rcases h.2 with ⟨e1, h0⟩ | ⟨g, c, cur, e1, h2, h3, h4, h5⟩
  · rw [hv] at e1
    simp only [Value.slice.injEq] at e1
    obtain ⟨rfl, _, rfl⟩ := e1
    obtain rfl : F = [] := List.eq_nil_of_length_eq_zero (by omega)
    exact ⟨none, 0, rfl, Nat.le_refl _, fun _ => rfl, fun j d hd => (by simp at hd)⟩
  · rw [hv] at e1
    simp only [Value.slice.injEq] at e1
    obtain ⟨rfl, rfl, rfl⟩ := e1
    rw [hv] at h
    exact ⟨_, cap, rfl, by omega, fun h => (by cases h), fun j d hd => ⟨g, 0, rfl, h2, own_opAt h j d (hF j d hd)⟩⟩
set_option maxHeartbeats 40000000 in
set_option maxRecDepth 100000 in
theorem canon6_any {w0 : World} (va : Value) (D0 : List OV) (E : List Op5) (w : World) (hb0 : Below w0.heap.size w0 w) (hrow : RowO w va D0) (hre : ReD w0 D0 E) (ok : OkE E) :
    Calls Tryz.prog 11 #[va] w fun r w' => ∃ v', r = .returned v' ∧ (∃ D', FarO w' w.heap.size v' D' ∧ ReD w0 D' (canonL E)) ∧ Below w.heap.size w w' := by
  have hDE := forall2_len hre
  obtain ⟨n, hn⟩ : ∃ n, E.length = n := ⟨_, rfl⟩
  obtain ⟨p, cap, rfl, hcap, hnz, hc⟩ := hrow
  have HR : Hid (∀ k, k < n → ∃ (e : Op5) (b off : Nat) (sp : Option Addr) (sl sc : Nat), E[k]? = some e ∧ p = some ⟨b, off, none⟩ ∧ OpAt w b (off + k * 7) (e.k, e.t, e.v, e.c, (sp, sl, sc)) ∧ RN w0 (.slice sp sl sc) e.A) := fun k hk => by
    obtain ⟨d, hd⟩ : ∃ d, D0[k]? = some d := ⟨_, List.getElem?_eq_getElem (by omega)⟩
    obtain ⟨e, he, h1, h2, h3, h4, h5⟩ := forall2_get hre k d hd
    obtain ⟨b, off, hp, hat⟩ := hc k d hd
    obtain ⟨dk, dt, dv, dc, sp, sl, sc⟩ := d
    simp only at h1 h2 h3 h4
    subst h1; subst h2; subst h3; subst h4
    exact ⟨e, b, off, sp, sl, sc, he, hp, hat, h5⟩
  have HN : Hid (E.length = n ∧ OkE E) := ⟨hn, ok⟩
  have hnl : n ≤ 4194304 := by have := ok.len; omega
  rw [hDE, hn] at hcap ⊢
  clear hc hDE hre hnz ok hn
  have hcs : CanS w0 w ((w.alloc (.cells #[] 33)).alloc (.cells #[] 33)) (.slice (some ⟨w.heap.size, 0, none⟩) 0 0) (.slice (some ⟨w.heap.size + 1, 0, none⟩) 0 0) [] [] := by
    have o1 := own_emptyO w w.heap.size (Nat.le_refl _)
    have b1 := (Below.refl w.heap.size w).alloc (Nat.le_refl _) (.cells #[] 33)
    have s1 : (w.alloc (.cells #[] 33)).heap.size = w.heap.size + 1 := by simp
    have o2 := own_emptyO (w.alloc (.cells #[] 33)) w.heap.size (by omega)
    rw [s1] at o2
    refine ⟨⟨[], owns_below o1 ((Below.refl _ _).alloc (Nat.le_refl _) _), .nil⟩, ⟨[], o2, .nil⟩, fun k h1 h2 => ?_, b1.alloc b1.size _, hb0⟩
    have e1 : w.heap.size = k := Option.some.inj h1
    have e2 : w.heap.size + 1 = k := Option.some.inj h2
    omega
  have HS0 : Hid (CanS w0 w ((w.alloc (.cells #[] 33)).alloc (.cells #[] 33)) (.slice (some ⟨w.heap.size, 0, none⟩) 0 0) (.slice (some ⟨w.heap.size + 1, 0, none⟩) 0 0) (stA E 0).1 (stA E 0).2.1) := by
    rw [stA_at (Nat.zero_le _), List.take_zero]; exact hcs
  have hz0 : (0 : Int) = (stA E 0).2.2 := by rw [stA_at (Nat.zero_le _), List.take_zero]; rfl
  clear hcs
  go_enter Tryz.func11, Tryz.ntmps11
  go_wp2
  obtain ⟨W0, hW0⟩ : ∃ W, W = (w.alloc (.cells #[] 33)).alloc (.cells #[] 33) := ⟨_, rfl⟩
  obtain ⟨vo0, hvo0⟩ : ∃ v : Value, v = .slice (some ⟨w.heap.size, 0, none⟩) 0 0 := ⟨_, rfl⟩
  obtain ⟨vg0, hvg0⟩ : ∃ v : Value, v = .slice (some ⟨w.heap.size + 1, 0, none⟩) 0 0 := ⟨_, rfl⟩
  rw [← hW0, ← hvo0, ← hvg0] at HS0
  try rw [← hW0]
  try rw [← hvo0]
  try rw [← hvg0]
  clear hW0 hvo0 hvg0
  go_loopw [3, 4, 5, 6] (fun vo vg g i wr => ∃ (m : Nat), m ≤ n + 1 ∧ i = .int .i64 m ∧ g = .int .i64 (stA E m).2.2 ∧ Hid (CanS w0 w wr vo vg (stA E m).1 (stA E m).2.1)) (fun _ _ _ i _ => n + 1 - (RowKit.intOf i).toNat)
  case atStart => exact ⟨0, Nat.zero_le _, rfl, by rw [← hz0], HS0⟩
  case round =>
    clear HS0 hz0
    obtain ⟨m, hm, rfl, rfl, HS⟩ := hrel
    by_cases hlt : m < n
    · have hltI : (m : Int) < n := by omega
      have hleI : (m : Int) ≤ n := by omega
      have hge0 : (0 : Int) ≤ (m : Int) := by omega
      obtain ⟨e, b, off, sp, sl, sc, he, rfl, hat, hrn⟩ := HR.out m hlt
      obtain ⟨c0, c1, c2, c3, c4, c5, c6⟩ := hat.below HS.out.below
      have how := HN.out.2.wel e (List.mem_of_getElem? he)
      have hA := (HN.out.2.fit e (List.mem_of_getElem? he)).n
      have ht : e.t.size ≤ 8388608 := by have := txtS_mem (List.mem_of_getElem? he); have := HN.out.2.txt; omega
      have hq := stA_q HN.out.2 (m := m) (by have := HN.out.1; omega)
      have hec : e.c ≤ 2199023255552 := by
        have := HN.out.2.base
        rcases cnt_le HN.out.2.wel (List.mem_of_getElem? he) with h1 | h1 <;> omega
      have HF : Hid (RN w0 (.slice sp sl sc) e.A ∧ Wel e ∧ e.A.length ≤ 1048576 ∧ e.t.size ≤ 8388608 ∧ e.c ≤ 2199023255552) := ⟨hrn, how, hA, ht, hec⟩
      have HQ := Hid.mk' hq
      have cI := ins6_any e sp sl sc wr
      rcases (show (e.k = 1 ∨ e.k = 2) ∨ e.k = 3 ∨ e.k = 4 by rcases how.kinds with h | h | h | h <;> omega) with hk | hk | hk
      · have HNX := Hid.mk' (stA_ins he hk)
        have cI0 : decide (e.k = 1 ∨ e.k = 2) = true := decide_eq_true (by omega)
        rw [cI0] at cI
        have HG : Hid (∀ W, Below wr.heap.size wr W → ∃ D, D.length ≤ 33554432 ∧ OpAt (W.alloc (.cells (opC e (.slice sp sl sc)) 33)) W.heap.size 0 (e.k, e.t, e.v, e.c, (sp, sl, sc)) ∧ OwnO (W.alloc (.cells (opC e (.slice sp sl sc)) 33)) w.heap.size u4 D ∧ w.heap.size ≤ (W.alloc (.cells (opC e (.slice sp sl sc)) 33)).heap.size ∧ ∀ v8 w8, OwnO w8 w.heap.size v8 (D ++ [(e.k, e.t, e.v, e.c, (sp, sl, sc))]) → (W.alloc (.cells (opC e (.slice sp sl sc)) 33)).grownBy w8 u4.ownBlock → (v8.ownBlock = u4.ownBlock ∨ v8.ownBlock = some (W.alloc (.cells (opC e (.slice sp sl sc)) 33)).heap.size) → CanS w0 w w8 u3 v8 (stA E (m + 1)).1 (stA E (m + 1)).2.1) := fun W hW => by
          have h := HS.out.keep hW
          have hk := h.keep ((Below.refl W.heap.size W).alloc (Nat.le_refl _) (.cells (opC e (.slice sp sl sc)) 33))
          obtain ⟨D, d1, d2⟩ := hk.gap
          have hl := forall2_len d2
          have := hq.2.2.2.2.2
          refine ⟨D, by omega, ⟨by simp [opC], by simp [opC], by simp [opC], by simp [opC], by simp [opC], by simp [opC], by simp [opC]⟩, d1, hk.below.size, fun v8 w8 a1 a2 a3 => ?_⟩
          rw [HNX.out]; exact hk.gapped d2 hrn a1 a2 a3
        have H2 : Hid ((stA E (m + 1)).2.2 = (stA E m).2.2) := by show _ = _; rw [HNX.out]
        obtain ⟨g, hg⟩ : ∃ x, (stA E m).2.2 = x := ⟨_, rfl⟩
        rw [hg] at H2 ⊢
        clear cI0 HQ hq hrn how hA ht hec hat he HF HNX HS hg
        obtain ⟨k, t, ⟨xx, nn, u⟩, cc, A⟩ := e
        simp only [slV] at c0 c1 c2 c3 c4 c5 c6 cI
        go_wp2_with fail
        refine cI.mono ?_; rintro r w1 ⟨rfl, hb1⟩
        have d0 := (hb1.cell (lt_of_cell c0)).trans c0
        have d1 := (hb1.cell (lt_of_cell c1)).trans c1
        have d2 := (hb1.cell (lt_of_cell c2)).trans c2
        have d3 := (hb1.cell (lt_of_cell c3)).trans c3
        have d4 := (hb1.cell (lt_of_cell c4)).trans c4
        have d5 := (hb1.cell (lt_of_cell c5)).trans c5
        have d6 := (hb1.cell (lt_of_cell c6)).trans c6
        obtain ⟨D, hD1, hD2, hD3, hD4, hD5⟩ := HG.out w1 hb1
        have HD5 := Hid.mk' hD5
        clear cI HG hD5 c0 c1 c2 c3 c4 c5 c6 hb1
        go_wp2_with (at_builtin; refine wpList_append_ops rfl (.tmp 28) (.tmp 33) rfl w.heap.size u4 D rfl hD3 _ 1 _ rfl hD2 hD1 hD4 ?_; intro v8 w8 own8 gr8 hat8; have HS2 := Hid.mk' (HD5.out v8 w8 own8 gr8 hat8); clear own8 gr8 hat8 HD5 hD1 hD2 hD3 hD4 d0 d1 d2 d3 d4 d5 d6)
        go_roundw
        case rel => exact ⟨m + 1, by omega, by go_num, by rw [H2.out], HS2⟩
        case measure => simp [RowKit.intOf]; omega
      · have HNX := Hid.mk' (stA_ret he hk)
        have cI0 : decide (e.k = 1 ∨ e.k = 2) = false := decide_eq_false (by omega)
        rw [cI0] at cI
        have HBE : Hid (∀ W, Below w.heap.size w W → OpAt W b (off + m * 7) (e.k, e.t, e.v, e.c, (sp, sl, sc))) := fun W hW => hat.below hW
        clear cI0 hq hrn how hA ht hec hat he
        obtain ⟨PO, hPO⟩ : ∃ x, (stA E m).1 = x := ⟨_, rfl⟩
        obtain ⟨PG, hPG⟩ : ∃ x, (stA E m).2.1 = x := ⟨_, rfl⟩
        obtain ⟨g, hg⟩ : ∃ x, (stA E m).2.2 = x := ⟨_, rfl⟩
        rw [hPO, hPG, hg] at HNX HQ
        rw [hPO, hPG] at HS
        rw [hg]
        clear hPO hPG hg
        have hg2 := HQ.out.2.2.2.2.1
        have hg1 := HQ.out.2.2.2.1
        obtain ⟨k, t, ⟨xx, nn, u⟩, cc, A⟩ := e
        simp only [slV] at hk c0 c1 c2 c3 c4 c5 c6 cI HBE
        subst hk
        go_wp2_with fail
        refine cI.mono ?_; rintro r w1 ⟨rfl, hb1⟩
        have c0' := (hb1.cell (lt_of_cell c0)).trans c0
        obtain ⟨pg, cg, rfl⟩ := HS.out.len
        have H1 : Hid (CanS w0 w w1 u3 (.slice pg PG.length cg) PO PG) := HS.out.keep hb1
        obtain ⟨lg, hlg⟩ : ∃ x, PG.length = x := ⟨_, rfl⟩
        have HLG : Hid (PG.length = lg) := hlg
        have hlg4 : lg ≤ 4194304 := by have := HQ.out.2.2.2.2.2; omega
        rw [hlg] at H1 ⊢
        clear hlg cI HS c0 c1 c2 c3 c4 c5 c6 hb1
        go_wp2
        go_loopw [3, 56] (fun vo i wr2 => ∃ (j : Nat), j ≤ lg ∧ i = .int .i64 j ∧ Hid (CanS w0 w wr2 vo (.slice pg lg cg) ((PG.take j).foldl pushL PO) PG)) (fun _ i _ => lg - (RowKit.intOf i).toNat)
        case atStart => exact ⟨0, Nat.zero_le _, rfl, by rw [List.take_zero]; exact H1⟩
        case round =>
          clear H1
          obtain ⟨j, hj, rfl, H1⟩ := hrel
          by_cases hjl : j < lg
          · have hjI : (j : Int) < lg := by omega
            have hj0 : (0 : Int) ≤ (j : Int) := by omega
            obtain ⟨e', gg, sp', sl', sc', he', rfl, hat', hrn'⟩ := H1.out.read j (by rw [HLG.out]; exact hjl)
            obtain ⟨d0, d1, d2, d3, d4, d5, d6⟩ := hat'
            rw [Nat.zero_add] at d0 d1 d2 d3 d4 d5 d6
            have HB := H1.out.keep ((Below.refl wr.heap.size wr).alloc (Nat.le_refl _) (.cells (opC e' (.slice sp' sl' sc')) 33))
            obtain ⟨a1, a2, a3, a4⟩ := HQ.out.2.2.1 e' (List.mem_of_getElem? he')
            have cP := push_can e' sp' sl' sc' HB hrn' (HQ.out.1 j) (Nat.le_refl _) (by decide) (Nat.le_refl _) a1 a2 a3 a4
            have hP2 : pushL ((PG.take j).foldl pushL PO) e' = (PG.take (j + 1)).foldl pushL PO := by rw [List.take_add_one, he', List.foldl_append]; rfl
            rw [hP2] at cP
            clear HB a1 a2 a3 a4 H1 hrn' he' hP2
            obtain ⟨k', t', ⟨x', n', u'⟩, c', A'⟩ := e'
            simp only [opC, slV] at d0 d1 d2 d3 d4 d5 d6 cP
            go_wp2_with fail
            refine cP.mono ?_; rintro r w5 ⟨v5, rfl, h5⟩
            have H5 := Hid.mk' h5
            clear cP d0 d1 d2 d3 d4 d5 d6 h5
            go_wp2
            go_roundw
            case rel => exact ⟨j + 1, by omega, by go_num, H5⟩
            case measure => simp [RowKit.intOf]; omega
          · obtain rfl : j = lg := by omega
            have hjI : ¬ (j : Int) < j := by omega
            have hq1 := HQ.out.1 j
            rw [show PG.take j = PG by have := HLG.out; rw [← this, List.take_length]] at H1 hq1
            by_cases hgp : 0 < g
            · have cP := push_can (delO g) none 0 0 H1.out (RN.nil w0) hq1 (Nat.le_refl _) (by decide) (Nat.le_refl _) (delO_wel (by omega)) (by show (0 : Nat) ≤ _; omega) (by show (0 : Nat) ≤ _; omega) (by show g ≤ _; omega)
              have hfl : pushL (PG.foldl pushL PO) (delO g) = flushL PO PG g := by unfold flushL; rw [if_pos hgp]
              rw [hfl] at cP
              simp only [delO] at cP
              clear hq1 H1 hfl
              go_wp2_with fail
              refine cP.mono ?_; rintro r w5 ⟨v5, rfl, h5⟩
              have H5 := Hid.mk' h5.cleared
              clear cP h5
              obtain ⟨d0, d1, d2, d3, d4, d5, d6⟩ := HBE.out w5 H5.out.below
              have cP := push_can ⟨3, t, (xx, nn, u), cc, A⟩ sp sl sc H5.out HF.out.1 HQ.out.2.1 (Nat.le_refl _) (by decide) (Nat.le_refl _) HF.out.2.1 HF.out.2.2.1 HF.out.2.2.2.1 HF.out.2.2.2.2
              have H2 : Hid ((stA E (m + 1)).2.2 = 0) := by show _ = _; rw [HNX.out]
              have h1 : pushL (flushL PO PG g) ⟨3, t, (xx, nn, u), cc, A⟩ = (stA E (m + 1)).1 := by rw [HNX.out]
              have h2 : ([] : List Op5) = (stA E (m + 1)).2.1 := by rw [HNX.out]
              rw [h1, h2] at cP
              clear H5 h1 h2 HNX HQ HF
              simp only [slV] at d0 d1 d2 d3 d4 d5 d6 cP
              go_wp2_with fail
              refine cP.mono ?_; rintro r w6 ⟨v6, rfl, h6⟩
              have H6 := Hid.mk' h6
              clear cP d0 d1 d2 d3 d4 d5 d6 h6
              go_wp2
              go_roundw
              case rel => exact ⟨m + 1, by omega, by go_num, by rw [H2.out], H6⟩
              case measure => simp [RowKit.intOf]; omega
            · have hfl : PG.foldl pushL PO = flushL PO PG g := by unfold flushL; rw [if_neg hgp]
              rw [hfl] at H1
              have H5 := Hid.mk' H1.out.cleared
              clear hq1 H1 hfl
              obtain ⟨d0, d1, d2, d3, d4, d5, d6⟩ := HBE.out wr H5.out.below
              have cP := push_can ⟨3, t, (xx, nn, u), cc, A⟩ sp sl sc H5.out HF.out.1 HQ.out.2.1 (Nat.le_refl _) (by decide) (Nat.le_refl _) HF.out.2.1 HF.out.2.2.1 HF.out.2.2.2.1 HF.out.2.2.2.2
              have H2 : Hid ((stA E (m + 1)).2.2 = 0) := by show _ = _; rw [HNX.out]
              have h1 : pushL (flushL PO PG g) ⟨3, t, (xx, nn, u), cc, A⟩ = (stA E (m + 1)).1 := by rw [HNX.out]
              have h2 : ([] : List Op5) = (stA E (m + 1)).2.1 := by rw [HNX.out]
              rw [h1, h2] at cP
              clear H5 h1 h2 HNX HQ HF
              simp only [slV] at d0 d1 d2 d3 d4 d5 d6 cP
              go_wp2_with fail
              refine cP.mono ?_; rintro r w6 ⟨v6, rfl, h6⟩
              have H6 := Hid.mk' h6
              clear cP d0 d1 d2 d3 d4 d5 d6 h6
              go_wp2
              go_roundw
              case rel => exact ⟨m + 1, by omega, by go_num, by rw [H2.out], H6⟩
              case measure => simp [RowKit.intOf]; omega
      · have HNX := Hid.mk' (stA_del he hk)
        have cI0 : decide (e.k = 1 ∨ e.k = 2) = false := decide_eq_false (by omega)
        rw [cI0] at cI
        have hcnt := how.count (Or.inr hk)
        have hg2 := hq.2.2.2.2.1
        have hg1 := hq.2.2.2.1
        clear cI0 HF HQ hq hrn how hA ht hat he
        obtain ⟨g, hg⟩ : ∃ x, (stA E m).2.2 = x := ⟨_, rfl⟩
        rw [hg] at HNX hg1 hg2 ⊢
        obtain ⟨k, t, ⟨xx, nn, u⟩, cc, A⟩ := e
        simp only [slV] at hk c0 c1 c2 c3 c4 c5 c6 hec hcnt cI
        subst hk
        go_wp2_with fail
        refine cI.mono ?_; rintro r w1 ⟨rfl, hb1⟩
        have c0' := (hb1.cell (lt_of_cell c0)).trans c0
        have c5' := (hb1.cell (lt_of_cell c5)).trans c5
        have H1 : Hid (CanS w0 w w1 u3 u4 (stA E (m + 1)).1 (stA E (m + 1)).2.1) := by rw [HNX.out]; exact HS.out.keep hb1
        have H2 : Hid ((stA E (m + 1)).2.2 = g + cc) := by show _ = _; rw [HNX.out]
        clear cI HS HNX c0 c1 c2 c3 c4 c5 c6 hg hb1
        go_wp2
        go_roundw
        case rel => exact ⟨m + 1, by omega, by go_num, by rw [H2.out], H1⟩
        case measure => simp [RowKit.intOf]; omega
    · by_cases hmn : m = n
      · subst hmn
        have hge0 : (0 : Int) ≤ (m : Int) := by omega
        have hq := stA_q HN.out.2 (m := m) (by have := HN.out.1; omega)
        have HQ := Hid.mk' hq
        have hst : stA E (m + 1) = (flushL (stA E m).1 (stA E m).2.1 (stA E m).2.2, [], 0) := by
          have e1 := HN.out.1
          rw [← e1, stA_end, stA_at (Nat.le_refl _), List.take_length]
        have HNX := Hid.mk' hst
        clear hq hst hlt
        obtain ⟨PO, hPO⟩ : ∃ x, (stA E m).1 = x := ⟨_, rfl⟩
        obtain ⟨PG, hPG⟩ : ∃ x, (stA E m).2.1 = x := ⟨_, rfl⟩
        obtain ⟨g, hg⟩ : ∃ x, (stA E m).2.2 = x := ⟨_, rfl⟩
        rw [hPO, hPG, hg] at HNX HQ
        rw [hPO, hPG] at HS
        rw [hg]
        clear hPO hPG hg
        have hg2 := HQ.out.2.2.2.2.1
        have hg1 := HQ.out.2.2.2.1
        obtain ⟨pg, cg, rfl⟩ := HS.out.len
        obtain ⟨lg, hlg⟩ : ∃ x, PG.length = x := ⟨_, rfl⟩
        have HLG : Hid (PG.length = lg) := hlg
        have hlg4 : lg ≤ 4194304 := by have := HQ.out.2.2.2.2.2; omega
        have H1 : Hid (CanS w0 w wr u3 (.slice pg PG.length cg) PO PG) := HS
        rw [hlg] at H1 ⊢
        clear hlg HS
        go_wp2
        go_loopw [3, 56] (fun vo i wr2 => ∃ (j : Nat), j ≤ lg ∧ i = .int .i64 j ∧ Hid (CanS w0 w wr2 vo (.slice pg lg cg) ((PG.take j).foldl pushL PO) PG)) (fun _ i _ => lg - (RowKit.intOf i).toNat)
        case atStart => exact ⟨0, Nat.zero_le _, rfl, by rw [List.take_zero]; exact H1⟩
        case round =>
          clear H1
          obtain ⟨j, hj, rfl, H1⟩ := hrel
          by_cases hjl : j < lg
          · have hjI : (j : Int) < lg := by omega
            have hj0 : (0 : Int) ≤ (j : Int) := by omega
            obtain ⟨e', gg, sp', sl', sc', he', rfl, hat', hrn'⟩ := H1.out.read j (by rw [HLG.out]; exact hjl)
            obtain ⟨d0, d1, d2, d3, d4, d5, d6⟩ := hat'
            rw [Nat.zero_add] at d0 d1 d2 d3 d4 d5 d6
            have HB := H1.out.keep ((Below.refl wr.heap.size wr).alloc (Nat.le_refl _) (.cells (opC e' (.slice sp' sl' sc')) 33))
            obtain ⟨a1, a2, a3, a4⟩ := HQ.out.2.2.1 e' (List.mem_of_getElem? he')
            have cP := push_can e' sp' sl' sc' HB hrn' (HQ.out.1 j) (Nat.le_refl _) (by decide) (Nat.le_refl _) a1 a2 a3 a4
            have hP2 : pushL ((PG.take j).foldl pushL PO) e' = (PG.take (j + 1)).foldl pushL PO := by rw [List.take_add_one, he', List.foldl_append]; rfl
            rw [hP2] at cP
            clear HB a1 a2 a3 a4 H1 hrn' he' hP2
            obtain ⟨k', t', ⟨x', n', u'⟩, c', A'⟩ := e'
            simp only [opC, slV] at d0 d1 d2 d3 d4 d5 d6 cP
            go_wp2_with fail
            refine cP.mono ?_; rintro r w5 ⟨v5, rfl, h5⟩
            have H5 := Hid.mk' h5
            clear cP d0 d1 d2 d3 d4 d5 d6 h5
            go_wp2
            go_roundw
            case rel => exact ⟨j + 1, by omega, by go_num, H5⟩
            case measure => simp [RowKit.intOf]; omega
          · obtain rfl : j = lg := by omega
            have hjI : ¬ (j : Int) < j := by omega
            have hq1 := HQ.out.1 j
            rw [show PG.take j = PG by have := HLG.out; rw [← this, List.take_length]] at H1 hq1
            by_cases hgp : 0 < g
            · have cP := push_can (delO g) none 0 0 H1.out (RN.nil w0) hq1 (Nat.le_refl _) (by decide) (Nat.le_refl _) (delO_wel (by omega)) (by show (0 : Nat) ≤ _; omega) (by show (0 : Nat) ≤ _; omega) (by show g ≤ _; omega)
              have hfl : pushL (PG.foldl pushL PO) (delO g) = flushL PO PG g := by unfold flushL; rw [if_pos hgp]
              rw [hfl] at cP
              simp only [delO] at cP
              clear hq1 H1 hfl
              go_wp2_with fail
              refine cP.mono ?_; rintro r w5 ⟨v5, rfl, h5⟩
              have H5 := Hid.mk' h5.cleared
              clear cP h5
              have H2 : Hid ((stA E (m + 1)).2.2 = 0) := by show _ = _; rw [HNX.out]
              have H6 : Hid (CanS w0 w w5 v5 (.slice none 0 0) (stA E (m + 1)).1 (stA E (m + 1)).2.1) := by rw [HNX.out]; exact H5
              clear H5 HNX HQ
              go_wp2
              go_roundw
              case rel => exact ⟨m + 1, by omega, by go_num, by rw [H2.out], H6⟩
              case measure => (simp [RowKit.intOf]) <;> omega
            · have hfl : PG.foldl pushL PO = flushL PO PG g := by unfold flushL; rw [if_neg hgp]
              rw [hfl] at H1
              have H5 := Hid.mk' H1.out.cleared
              clear hq1 H1 hfl
              have H2 : Hid ((stA E (m + 1)).2.2 = 0) := by show _ = _; rw [HNX.out]
              have H6 : Hid (CanS w0 w wr u3 (.slice none 0 0) (stA E (m + 1)).1 (stA E (m + 1)).2.1) := by rw [HNX.out]; exact H5
              clear H5 HNX HQ
              go_wp2
              go_roundw
              case rel => exact ⟨m + 1, by omega, by go_num, by rw [H2.out], H6⟩
              case measure => (simp [RowKit.intOf]) <;> omega
      · obtain rfl : m = n + 1 := by omega
        have hnl1 : ¬ ((n : Int) + 1 ≤ n) := by omega
        have hst : (stA E (n + 1)).1 = flushL (runC E).1 (runC E).2.1 (runC E).2.2 := by
          have e1 := HN.out.1
          rw [← e1, stA_end]
        rw [hst] at HS
        have hq := (stA_q HN.out.2 (m := n) (by have := HN.out.1; omega)).2.1.len
        rw [stA_at (by have := HN.out.1; omega), show E.take n = E by have := HN.out.1; rw [← this, List.take_length]] at hq
        have hcan : canonL E = trimL (flushL (runC E).1 (runC E).2.1 (runC E).2.2) := rfl
        generalize flushL (runC E).1 (runC E).2.1 (runC E).2.2 = P at HS hq hcan
        have hb := HS.out.below
        obtain ⟨D, hown, hD⟩ := HS.out.out
        have hD' := hD
        have hlen := forall2_len hD
        generalize (stA E (n + 1)).2.2 = g at *
        clear HS hst HN HR hD
        rcases List.eq_nil_or_concat P with rfl | ⟨F, x, rfl⟩
        · obtain rfl : D = [] := List.eq_nil_of_length_eq_zero (by simpa using hlen)
          obtain ⟨po, co, hvo⟩ := own_slice hown
          obtain rfl : u3 = .slice po 0 co := hvo
          have HO : Hid (FarO wr w.heap.size (.slice po 0 co) [] ∧ Below w.heap.size w wr) := ⟨far_own hown rfl (fun _ _ h => h) (Nat.le_refl _), hb⟩
          have HC : Hid (canonL E = []) := hcan
          clear hown hb hD' hlen hq hmn hlt hm hcan
          go_wp2
          go_ret
          exact ⟨_, rfl, ⟨[], HO.out.1, by rw [HC.out]; exact .nil⟩, HO.out.2⟩
        · rw [List.concat_eq_append] at hD' hlen hq hcan
          obtain ⟨FD, d, rfl⟩ : ∃ FD d, D = FD ++ [d] := by
            rcases List.eq_nil_or_concat D with rfl | ⟨FD, d, rfl⟩
            · simp at hlen
            · exact ⟨FD, d, List.concat_eq_append⟩
          have hl' : FD.length = F.length := by simpa using hlen
          obtain ⟨hF, hx⟩ := forall2_unappend hl' hD'
          obtain ⟨hx1, hx2, hx3, hx4, hx5⟩ : d.1 = x.k ∧ d.2.1 = x.t ∧ d.2.2.1 = x.v ∧ d.2.2.2.1 = x.c ∧ RN w0 (slV d.2.2.2.2) x.A := by cases hx with | cons a _ => exact a
          obtain ⟨dk, dt, dv, dc, sp, sl, sc⟩ := d
          simp only at hx1 hx2 hx3 hx4
          subst hx1; subst hx2; subst hx3; subst hx4
          have hro := own_rowO hown
          obtain ⟨po, co, hvo, hco1, hco2, hco3⟩ := hro
          obtain ⟨bo, oo, rfl, hat⟩ := hco3 FD.length (x.k, x.t, x.v, x.c, sp, sl, sc) (by simp)
          obtain ⟨c0, c1, c2, c3, c4, c5, c6⟩ := hat
          rw [show (FD ++ [(x.k, x.t, x.v, x.c, sp, sl, sc)]).length = FD.length + 1 by simp] at hvo hco1
          subst hvo
          have hlA : sl = x.A.length := by
            obtain ⟨q, cc, e1, _⟩ := hx5.row
            simp only [slV, Value.slice.injEq] at e1
            exact e1.2.1
          have cP := plain6_any x sp sl sc wr hlA
          have HB := Hid.mk' hb
          have HO := Hid.mk' hown
          have HRF : Hid (FarO wr w.heap.size (.slice (some ⟨bo, oo, none⟩) FD.length co) FD ∧ ReD w0 FD F) := ⟨far_own hown rfl (fun j d hd => by rw [List.getElem?_append_left (List.getElem?_eq_some_iff.1 hd).1]; exact hd) (by simp), hF⟩
          have HRX : Hid (FarO wr w.heap.size (.slice (some ⟨bo, oo, none⟩) (FD.length + 1) co) (FD ++ [(x.k, x.t, x.v, x.c, sp, sl, sc)]) ∧ ReD w0 (FD ++ [(x.k, x.t, x.v, x.c, sp, sl, sc)]) (F ++ [x])) := ⟨by have h := far_own hown rfl (F := FD ++ [(x.k, x.t, x.v, x.c, sp, sl, sc)]) (fun _ _ h => h) (Nat.le_refl _); rw [show (FD ++ [(x.k, x.t, x.v, x.c, sp, sl, sc)]).length = FD.length + 1 by simp] at h; exact h, forall2_append hF hx⟩
          have hFl : FD.length ≤ 4194304 := by simp at hq; omega
          obtain ⟨fl, hfl⟩ : ∃ y, FD.length = y := ⟨_, rfl⟩
          rw [hfl] at HRF HRX hFl hco1 c0 c1 c2 c3 c4 c5 c6 ⊢
          clear hco3 hco2 hx5 hx hF hl' hlen hD' hown hb hq hfl HO hmn hlt hm hlA
          have hf0 : (0 : Int) < (fl : Int) + 1 := by omega
          have hf1 : (fl : Int) + 1 - 1 = (fl : Int) := by omega
          have hf2 : (0 : Int) ≤ (fl : Int) := by omega
          cases hp : plainR x with
          | true =>
            rw [trim_yes hp] at hcan
            have HC := Hid.mk' hcan
            rw [hp] at cP
            clear HRX hp hcan
            obtain ⟨k, t, ⟨xx, nn, u⟩, cc, A⟩ := x
            simp only [slV] at c0 c1 c2 c3 c4 c5 c6 cP
            go_wp2_with fail
            refine cP.mono ?_; rintro r w1 ⟨rfl, hb1⟩
            have HB1 : Hid (Below w.heap.size w w1) := HB.out.trans (hb1.mono HB.out.size)
            have HR1 := Hid.mk' (And.intro (HRF.out.1.below hb1) HRF.out.2)
            clear cP c0 c1 c2 c3 c4 c5 c6 HRF HB hb1
            go_wp2
            go_ret
            exact ⟨_, rfl, ⟨_, HR1.out.1, by rw [HC.out]; exact HR1.out.2⟩, HB1.out⟩
          | false =>
            rw [trim_no hp] at hcan
            have HC := Hid.mk' hcan
            rw [hp] at cP
            clear HRF hp hcan
            obtain ⟨k, t, ⟨xx, nn, u⟩, cc, A⟩ := x
            simp only [slV] at c0 c1 c2 c3 c4 c5 c6 cP
            go_wp2_with fail
            refine cP.mono ?_; rintro r w1 ⟨rfl, hb1⟩
            have HB1 : Hid (Below w.heap.size w w1) := HB.out.trans (hb1.mono HB.out.size)
            have HR1 := Hid.mk' (And.intro (HRX.out.1.below hb1) HRX.out.2)
            clear cP c0 c1 c2 c3 c4 c5 c6 HRX HB hb1
            go_wp2
            go_ret
            exact ⟨_, rfl, ⟨_, HR1.out.1, by rw [HC.out]; exact HR1.out.2⟩, HB1.out⟩
end Go.Proofs.YtalfdjglbbmjcaaGreatDoor
