/- Of all lists of operations vellumlaw05.OpsPlays answers true. What vellumref04.SameCell and SameCells answer: whether the cells are the same. What content.Cut answers. What content.Cut answers of a text that can be cut. What content.Join answers. content.textCells: the cells of a text. What the values' methods answer: Kind, Plain; how values of the interface compare. What content.Cells and content.Newlines answer. What the methods Op of api.Insert and api.Embed answer. What the methods Op of pieces answer. ops.Bearers: the pieces that bear attributes, with their numbers. Of all lists of operations vellumlaw05.OpsPieces answers true. -/
import Derived.Test.YtkgflmbhkbeakaaDoorMga
import Derived.Test.YtkgflmbhkbeakaaDoorMgb
import Derived.Test.YtkgflmbhkbeakaaDoorCc
import Derived.Deep.RegionHeld3
import Derived.Test.YtkgflmbhkbeakaaDoorCq
import Derived.BigRegion
import Derived.Deep.DeepCutAuto
import Derived.Laws.MakeOwn
import Derived.Test.YtkgflmbhkbeakaaDoorVs
import Derived.Test.YtkgflmbhkbeakaaDoorVf
import Derived.Test.YtkgflmbhkbeakaaDoorQf

/- Of all lists of operations vellumlaw05.OpsPlays answers true. -/
namespace Go.Proofs.YtkgflmbhkbeakaaDoor
open Go Go.RowKit Go.Lib
set_option linter.unusedVariables false

theorem opE_le (o : Op5) : opE o ≤ 19 := by
  have hl : ∀ (nulls : Bool) (L : List A2) (pv : Option ByteArray), listE nulls pv L ≤ 10 := fun nulls L => by
    induction L with
    | nil => intro pv; rw [listE]; omega
    | cons q r ih =>
      intro pv
      rw [listE]
      split
      · split
        · omega
        · split
          · exact ih _
          · omega
      · unfold pairE
        split
        · omega
        · split
          · omega
          · exact chk_le _ _ _
  unfold opE
  split
  · have := insE_le o (fun L => hl false L none); omega
  · have hc : cntE o ≤ 11 := by unfold cntE; split; omega; split <;> omega
    split
    · split
      · omega
      · have := hl true o.A none; omega
    · split
      · split <;> omega
      · omega
theorem badP_le (E : List Op5) : (badP E).2 ≤ 19 := by
  rcases bad_cases E with ⟨_, h⟩ | ⟨k, o, _, _, _, h⟩
  · rw [h]; omega
  · rw [h]; exact opE_le o
theorem sumL_le : ∀ (E : List Op5) (b r : Int), (sumL b r E).2.2 ≤ 19
  | [], b, r => Nat.zero_le _
  | o :: L, b, r => by
    rw [sumL]
    split
    · simp only []; omega
    · exact sumL_le L _ _
theorem lensL_le (E : List Op5) : (lensL E).2.2 ≤ 19 := by
  unfold lensL
  split
  · exact badP_le E
  · exact sumL_le E 0 0

set_option maxHeartbeats 4000000 in
set_option maxRecDepth 100000 in
theorem opsPlays_any {I : List Nat} {ad : Nat → Addr} (va vb : Value) (A B : List Op5) (w : World) (hI : ∀ i ∈ IxO, i ∈ I) (hS : Std I ad w) (hN : Sent ad w) (ra : ReO w va A) (rb : ReO w vb B) (fA : FitL A) (fB : FitL B) (lA : A.length ≤ 1048576) (lB : B.length ≤ 1048576) :
    Calls Tryd.prog 6 #[va, vb] w fun r w' => r = .returned (.bool true) ∧ Below w.heap.size w w' := by
  have cF := fixed5_any w hI hS
  have hAA : ∀ e ∈ A, e.A.length ≤ 1048576 := fun e he => (fA e he).n
  have hAB : ∀ e ∈ B, e.A.length ≤ 1048576 := fun e he => (fB e he).n
  have HX : Hid (∀ W, Below w.heap.size w W → Std I ad W ∧ Sent ad W ∧ ReO W va A ∧ ReO W vb B) := fun W hW => ⟨hS.below hW, hN.below hW, ra.below hW, rb.below hW⟩
  have HF : Hid (FitL A ∧ FitL B ∧ (∀ e ∈ A, e.A.length ≤ 1048576) ∧ (∀ e ∈ B, e.A.length ≤ 1048576)) := ⟨fA, fB, hAA, hAB⟩
  obtain ⟨D, hrow, hre⟩ := ra
  have hDE := forall2_len hre
  obtain ⟨n, hn⟩ : ∃ n, D.length = n := ⟨_, rfl⟩
  obtain ⟨pa, ca, rfl, hca, hza, hA⟩ := hrow
  obtain ⟨pb, nb, cb, rfl⟩ : ∃ p n c, vb = .slice p n c := by obtain ⟨D', ⟨p, c, h, _⟩, _⟩ := rb; exact ⟨_, _, _, h⟩
  have HA : Hid (D.length = n ∧ A.length = n ∧ (∀ (j : Nat) (d : OV), D[j]? = some d → ∃ b off, pa = some ⟨b, off, none⟩ ∧ OpAt w b (off + j * 7) d) ∧ ReD w D A) := ⟨hn, by rw [← hDE, hn], hA, hre⟩
  have hl : n ≤ 1048576 := by rw [← hn, hDE]; exact lA
  rw [hn] at hca HX ⊢
  have HI : Hid (∀ i ∈ IxO, i ∈ I) := hI
  have LL : Hid (A.length ≤ 1048576 ∧ B.length ≤ 1048576) := ⟨lA, lB⟩
  clear hA hre hDE hn hza fA fB hS hN rb hAA hAB hI lA lB
  go_enter Tryd.func6, Tryd.ntmps6
  go_wp2_with fail
  refine cF.mono ?_; rintro r w1 ⟨rfl, h1⟩
  have cCp := copied5_any (.slice pa n ca) A w1 (HX.out w1 h1).2.2.1 LL.out.1 HF.out.2.2.1
  clear cF
  go_wp2_with fail
  refine cCp.mono ?_; rintro r w5 ⟨v5, rfl, hco, h5⟩
  have b5 := h1.trans (h5.mono h1.size)
  have R5 := hco.re
  have HX5 : Hid (∀ W, Below w5.heap.size w5 W → Std I ad W ∧ Sent ad W ∧ ReO W (.slice pa n ca) A ∧ ReO W (.slice pb nb cb) B ∧ ReO W v5 A) := fun W hW => by
    obtain ⟨x1, x2, x3, x4⟩ := HX.out W (b5.trans (hW.mono b5.size))
    exact ⟨x1, x2, x3, x4, R5.below hW⟩
  obtain ⟨D5, hrow5, hre5⟩ := R5
  have hDE5 := forall2_len hre5
  obtain ⟨p5, c5, rfl, hc5, _, hA5⟩ := hrow5
  have hl5 : D5.length = n := by rw [hDE5]; exact HA.out.2.1
  rw [hl5] at hc5 HX5 ⊢
  have H5 : Hid (D5.length = n ∧ (∀ (j : Nat) (d : OV), D5[j]? = some d → ∃ b off, p5 = some ⟨b, off, none⟩ ∧ OpAt w5 b (off + j * 7) d) ∧ ReD w5 D5 A) := ⟨hl5, hA5, hre5⟩
  clear cCp hco h5 h1 hA5 hre5 hDE5 hl5
  go_wp2_with fail
  go_loopw [19, 6] (fun i _ wr => ∃ (k : Nat), k ≤ n ∧ i = .int .i64 k ∧ Below w5.heap.size w5 wr) (fun i _ _ => n - (RowKit.intOf i).toNat)
  case atStart => exact ⟨0, Nat.zero_le _, rfl, Below.refl _ _⟩
  case round =>
    obtain ⟨k, hk, rfl, hbw⟩ := hrel
    by_cases hlt : k < n
    · have hltI : (k : Int) < n := by omega
      obtain ⟨d, hd⟩ : ∃ q, D[k]? = some q := ⟨_, List.getElem?_eq_getElem (by rw [HA.out.1]; exact hlt)⟩
      obtain ⟨d', hd'⟩ : ∃ q, D5[k]? = some q := ⟨_, List.getElem?_eq_getElem (by rw [H5.out.1]; exact hlt)⟩
      obtain ⟨e, he, hr⟩ := forall2_get HA.out.2.2.2 k d hd
      obtain ⟨e', he', hr'⟩ := forall2_get H5.out.2.2 k d' hd'
      obtain rfl : e = e' := Option.some.inj (he.symm.trans he')
      have fe := HF.out.1 e (List.mem_of_getElem? he)
      have bw := b5.trans (hbw.mono b5.size)
      have cC : ∀ W, Below w5.heap.size w5 W → Calls Tryd.prog 38 #[ovV d'] W fun r w' => r = .returned (errOf ad (opE e)) ∧ Below W.heap.size W w' := fun W hW => by
        rw [opV_of hr']
        exact checkO_any e _ W HI.out (HX5.out W hW).1 (hr'.2.2.2.2.below hW) fe
      have cR : ∀ W, Below w5.heap.size w5 W → Calls Tryd.prog 39 #[ovV d] W fun r w' => r = .returned (.int .i64 (opE e)) ∧ Below W.heap.size W w' := fun W hW => by
        rw [opV_of hr]
        exact refCheckO_any e _ W (HX5.out W hW).1 (hr.2.2.2.2.below (b5.trans (hW.mono b5.size))) fe
      have cN : ∀ W, Below w5.heap.size w5 W → Calls Tryd.prog 11 #[errOf ad (opE e)] W fun r w' => r = .returned (.int .i64 (opE e)) ∧ Below W.heap.size W w' := fun W hW => num_of (HX5.out W hW).2.1 _ (opE_le e)
      obtain ⟨er, her⟩ : ∃ x, errOf ad (opE e) = x := ⟨_, rfl⟩
      obtain ⟨z9, hz9⟩ : ∃ x : Int, ((opE e : Nat) : Int) = x := ⟨_, rfl⟩
      rw [her] at cC cN
      rw [hz9] at cR cN
      obtain ⟨b, off, rfl, hin⟩ := HA.out.2.2.1 k d hd
      obtain ⟨b', off', rfl, hin'⟩ := H5.out.2.1 k d' hd'
      obtain ⟨c0, c1, c2, c3, c4, c5, c6⟩ := hin.below bw
      obtain ⟨d0, d1, d2, d3, d4, d5, d6⟩ := hin'.below hbw
      clear hin hin' hd hd' he he' hr hr' fe her hz9
      obtain ⟨f, t, ⟨x, z, u⟩, cc1, p, j, c⟩ := d
      obtain ⟨f', t', ⟨x', z', u'⟩, cc1', p', j', c'⟩ := d'
      simp only [slV] at c0 c1 c2 c3 c4 c5 c6 d0 d1 d2 d3 d4 d5 d6
      simp only [ovV, ovC, slV] at cC cR
      have HU : Hid (∀ w', Below wr.drew.heap.size wr.drew w' → (w'.cell? ⟨b, off + k * 7, none⟩ = some (.int .i64 f) ∧ w'.cell? ⟨b, off + k * 7 + 1, none⟩ = some (.string t) ∧ w'.cell? ⟨b, off + k * 7 + 2, none⟩ = some (.int .i64 x) ∧ w'.cell? ⟨b, off + k * 7 + 3, none⟩ = some (.int .i64 z) ∧ w'.cell? ⟨b, off + k * 7 + 4, none⟩ = some (.string u) ∧ w'.cell? ⟨b, off + k * 7 + 5, none⟩ = some (.int .i64 cc1) ∧ w'.cell? ⟨b, off + k * 7 + 6, none⟩ = some (.slice p j c) ∧ w'.cell? ⟨b', off' + k * 7, none⟩ = some (.int .i64 f') ∧ w'.cell? ⟨b', off' + k * 7 + 1, none⟩ = some (.string t') ∧ w'.cell? ⟨b', off' + k * 7 + 2, none⟩ = some (.int .i64 x') ∧ w'.cell? ⟨b', off' + k * 7 + 3, none⟩ = some (.int .i64 z') ∧ w'.cell? ⟨b', off' + k * 7 + 4, none⟩ = some (.string u') ∧ w'.cell? ⟨b', off' + k * 7 + 5, none⟩ = some (.int .i64 cc1') ∧ w'.cell? ⟨b', off' + k * 7 + 6, none⟩ = some (.slice p' j' c'))) := fun w' hb => ⟨(hb.cell (lt_of_cell (w := wr.drew) c0)).trans c0, (hb.cell (lt_of_cell (w := wr.drew) c1)).trans c1, (hb.cell (lt_of_cell (w := wr.drew) c2)).trans c2, (hb.cell (lt_of_cell (w := wr.drew) c3)).trans c3, (hb.cell (lt_of_cell (w := wr.drew) c4)).trans c4, (hb.cell (lt_of_cell (w := wr.drew) c5)).trans c5, (hb.cell (lt_of_cell (w := wr.drew) c6)).trans c6, (hb.cell (lt_of_cell (w := wr.drew) d0)).trans d0, (hb.cell (lt_of_cell (w := wr.drew) d1)).trans d1, (hb.cell (lt_of_cell (w := wr.drew) d2)).trans d2, (hb.cell (lt_of_cell (w := wr.drew) d3)).trans d3, (hb.cell (lt_of_cell (w := wr.drew) d4)).trans d4, (hb.cell (lt_of_cell (w := wr.drew) d5)).trans d5, (hb.cell (lt_of_cell (w := wr.drew) d6)).trans d6⟩
      have hz0 : w5.heap.size ≤ wr.drew.heap.size := hbw.size
      clear bw
      go_wp2_with fail
      go_region_held3 (fun w' => (w'.cell? ⟨b, off + k * 7, none⟩ = some (.int .i64 f) ∧ w'.cell? ⟨b, off + k * 7 + 1, none⟩ = some (.string t) ∧ w'.cell? ⟨b, off + k * 7 + 2, none⟩ = some (.int .i64 x) ∧ w'.cell? ⟨b, off + k * 7 + 3, none⟩ = some (.int .i64 z) ∧ w'.cell? ⟨b, off + k * 7 + 4, none⟩ = some (.string u) ∧ w'.cell? ⟨b, off + k * 7 + 5, none⟩ = some (.int .i64 cc1) ∧ w'.cell? ⟨b, off + k * 7 + 6, none⟩ = some (.slice p j c) ∧ w'.cell? ⟨b', off' + k * 7, none⟩ = some (.int .i64 f') ∧ w'.cell? ⟨b', off' + k * 7 + 1, none⟩ = some (.string t') ∧ w'.cell? ⟨b', off' + k * 7 + 2, none⟩ = some (.int .i64 x') ∧ w'.cell? ⟨b', off' + k * 7 + 3, none⟩ = some (.int .i64 z') ∧ w'.cell? ⟨b', off' + k * 7 + 4, none⟩ = some (.string u') ∧ w'.cell? ⟨b', off' + k * 7 + 5, none⟩ = some (.int .i64 cc1') ∧ w'.cell? ⟨b', off' + k * 7 + 6, none⟩ = some (.slice p' j' c')) ∧ Below w5.heap.size w5 w')
        (exact ⟨by first | (with_reducible assumption) | (simp [*]; done), by first | (with_reducible assumption) | exact hbw.drew⟩)
        (first
          | (go_at_call 39; refine (cR _ ?_).mono ?_; (· first | assumption | (apply And.right; assumption)); rintro r wC ⟨rfl, bC'⟩; have bC : Below wr.drew.heap.size wr.drew wC := bB.trans (bC'.mono bB.size); have jC : Below w5.heap.size w5 wC := (hbw.drew).trans (bC.mono hz0); have mmC := HU.out _ bC)
          | (go_at_call 11; refine (cN _ ?_).mono ?_; (· first | assumption | (apply And.right; assumption)); rintro r wB ⟨rfl, bB'⟩; have bB : Below wr.drew.heap.size wr.drew wB := bA.trans (bB'.mono bA.size); have jB : Below w5.heap.size w5 wB := (hbw.drew).trans (bB.mono hz0); have mmB := HU.out _ bB)
          | (go_at_call 38; refine (cC _ ?_).mono ?_; (· first | assumption | exact hbw.drew | (apply And.right; assumption)); rintro r wA ⟨rfl, bA⟩; have jA : Below w5.heap.size w5 wA := (hbw.drew).trans (bA.mono hz0); have mmA := HU.out _ bA))
      clear cC cR cN mmA mmB mmC jA jB bA bB bC
      go_wp2
      go_roundw
      case rel => exact ⟨k + 1, by omega, by go_num, jC⟩
      case measure => simp [RowKit.intOf]; omega
    · have hltI : ¬ (k : Int) < n := by omega
      have cL := fun W hW => lens_any (.slice p5 n c5) A W HI.out (HX5.out W hW).1 (HX5.out W hW).2.2.2.2 HF.out.1 LL.out.1
      have cM := fun W hW => refLens_any (.slice pa n ca) A W (HX5.out W hW).1 (HX5.out W hW).2.2.1 HF.out.1 LL.out.1
      have cN := fun W hW => num_of (HX5.out W hW).2.1 _ (lensL_le A)
      obtain ⟨L9, hL9⟩ : ∃ x, lensL A = x := ⟨_, rfl⟩
      rw [hL9] at cL cM cN
      obtain ⟨lb, lr, le⟩ := L9
      simp only at cL cM cN
      obtain ⟨er, her⟩ : ∃ x, errOf ad le = x := ⟨_, rfl⟩
      obtain ⟨z9, hz9⟩ : ∃ x : Int, ((le : Nat) : Int) = x := ⟨_, rfl⟩
      rw [her] at cL cN
      rw [hz9] at cM cN
      have cC := fun W hW => canon_any (.slice p5 n c5) A W HI.out (HX5.out W hW).1 (HX5.out W hW).2.2.2.2 HF.out.1 LL.out.1
      have cD := fun W hW => refCanon_any (.slice pa n ca) A W (HX5.out W hW).1 (HX5.out W hW).2.2.1 HF.out.1 LL.out.1
      obtain ⟨qc, hqc⟩ : ∃ x, canonB A = x := ⟨_, rfl⟩
      rw [hqc] at cC cD
      have cS1 := fun W hW => sameL_any (.slice p5 n c5) (.slice pb nb cb) A B W (HX5.out W hW).2.2.2.2 (HX5.out W hW).2.2.2.1 (Nat.le_trans LL.out.1 (by decide)) (Nat.le_trans LL.out.2 (by decide)) HF.out.2.2.1 HF.out.2.2.2
      have cS2 := fun W hW => sameQ_any (.slice pa n ca) (.slice pb nb cb) A B W (HX5.out W hW).2.2.1 (HX5.out W hW).2.2.2.1 (Nat.le_trans LL.out.1 (by decide)) (Nat.le_trans LL.out.2 (by decide)) HF.out.2.2.1 HF.out.2.2.2
      obtain ⟨qs, hqs⟩ : ∃ x, decide (A = B) = x := ⟨_, rfl⟩
      rw [hqs] at cS1 cS2
      have cS3 := fun W hW => sameL_any (.slice p5 n c5) (.slice pa n ca) A A W (HX5.out W hW).2.2.2.2 (HX5.out W hW).2.2.1 (Nat.le_trans LL.out.1 (by decide)) (Nat.le_trans LL.out.1 (by decide)) HF.out.2.2.1 HF.out.2.2.1
      have cS4 := fun W hW => sameQ_any (.slice p5 n c5) (.slice pa n ca) A A W (HX5.out W hW).2.2.2.2 (HX5.out W hW).2.2.1 (Nat.le_trans LL.out.1 (by decide)) (Nat.le_trans LL.out.1 (by decide)) HF.out.2.2.1 HF.out.2.2.1
      rw [decide_eq_true rfl] at cS3 cS4
      have cL : Hid _ := cL
      have cM : Hid _ := cM
      have cN : Hid _ := cN
      have cC : Hid _ := cC
      have cD : Hid _ := cD
      have cS1 : Hid _ := cS1
      have cS2 : Hid _ := cS2
      have cS3 : Hid _ := cS3
      have cS4 : Hid _ := cS4
      clear hL9 her hz9 hqc hqs
      go_wp2_with fail
      refine (cL.out _ hbw).mono ?_; rintro r x1 ⟨rfl, g1⟩
      have f1 := hbw.trans (g1.mono hbw.size)
      clear g1
      go_wp2_with fail
      refine (cM.out _ f1).mono ?_; rintro r x2 ⟨rfl, g2⟩
      have f2 := f1.trans (g2.mono f1.size)
      clear g2 f1
      go_wp2_with fail
      refine (cN.out _ f2).mono ?_; rintro r x3 ⟨rfl, g3⟩
      have f3 := f2.trans (g3.mono f2.size)
      clear g3 f2
      go_wp2_with fail
      refine (cC.out _ f3).mono ?_; rintro r x4 ⟨rfl, g4⟩
      have f4 := f3.trans (g4.mono f3.size)
      clear g4 f3
      go_wp2_with fail
      refine (cD.out _ f4).mono ?_; rintro r x5 ⟨rfl, g5⟩
      have f5 := f4.trans (g5.mono f4.size)
      clear g5 f4
      go_wp2_with fail
      refine (cS1.out _ f5).mono ?_; rintro r x6 ⟨rfl, g6⟩
      have f6 := f5.trans (g6.mono f5.size)
      clear g6 f5
      go_wp2_with fail
      refine (cS2.out _ f6).mono ?_; rintro r x7 ⟨rfl, g7⟩
      have f7 := f6.trans (g7.mono f6.size)
      clear g7 f6
      go_wp2_with fail
      refine (cS3.out _ f7).mono ?_; rintro r x8 ⟨rfl, g8⟩
      have f8 := f7.trans (g8.mono f7.size)
      clear g8 f7
      go_wp2_with fail
      refine (cS4.out _ f8).mono ?_; rintro r x9 ⟨rfl, g9⟩
      have f9 := b5.trans ((f8.trans (g9.mono f8.size)).mono b5.size)
      clear g9 f8
      go_wp2
      go_ret
      exact ⟨rfl, f9⟩
end Go.Proofs.YtkgflmbhkbeakaaDoor

/- What vellumref04.SameCell and SameCells answer: whether the cells are the same. -/
namespace Go.Proofs.YtkgflmbhkbeakaaDoor
open Go Go.RowKit Go.Lib
set_option linter.unusedVariables false

abbrev ceC (d : CV) : Array Value := #[.int .i32 d.1, .string d.2.1, .int .i64 d.2.2.1.1, .int .i64 d.2.2.1.2.1, .string d.2.2.1.2.2, slV d.2.2.2]
end Go.Proofs.YtkgflmbhkbeakaaDoor

/- What content.Cut answers. -/
namespace Go.Proofs.YtkgflmbhkbeakaaDoor
open Go Go.RowKit Go.Lib
set_option linter.unusedVariables false

/-- The three boxes of a call that answers two operations. -/
abbrev bx3 (w : World) (o : Op5) (s : Value) : World := ((w.alloc (.cells (opC o s) 63)).alloc (.cells (opC opZ nilS) 63)).alloc (.cells (opC opZ nilS) 63)
theorem bx3_below (w : World) (o : Op5) (s : Value) : Below w.heap.size w (bx3 w o s) := (((Below.refl w.heap.size w).alloc (Nat.le_refl _) _).alloc (by simp) _).alloc (by simp; omega) _
theorem bx3_0 (w : World) (o : Op5) (s : Value) : BoxO (bx3 w o s) w.heap.size o s := ((BoxO.new w o s).below ((Below.refl _ _).alloc (Nat.le_refl _) _)).below ((Below.refl _ _).alloc (Nat.le_refl _) _)
theorem bx3_1 (w : World) (o : Op5) (s : Value) : BoxO (bx3 w o s) (w.heap.size + 1) opZ nilS ∧ FrO (bx3 w o s) (w.heap.size + 1) := by
  have h1 := BoxO.new (w.alloc (.cells (opC o s) 63)) opZ nilS
  have h2 := FrO.new (w.alloc (.cells (opC o s) 63)) opZ nilS
  rw [World.size_alloc] at h1 h2
  exact ⟨h1.below ((Below.refl _ _).alloc (Nat.le_refl _) _), h2.below h1 ((Below.refl _ _).alloc (Nat.le_refl _) _)⟩
theorem bx3_2 (w : World) (o : Op5) (s : Value) : BoxO (bx3 w o s) (w.heap.size + 1 + 1) opZ nilS ∧ FrO (bx3 w o s) (w.heap.size + 1 + 1) := by
  have h1 := BoxO.new ((w.alloc (.cells (opC o s) 63)).alloc (.cells (opC opZ nilS) 63)) opZ nilS
  have h2 := FrO.new ((w.alloc (.cells (opC o s) 63)).alloc (.cells (opC opZ nilS) 63)) opZ nilS
  rw [World.size_alloc, World.size_alloc] at h1 h2
  exact ⟨h1, h2⟩

theorem heap_set7 {B k : Nat} (w' : World) (hk : k ≠ B) (v0 v1 v2 v3 v4 v5 v6 : Value) :
    (((((((w'.setCell ⟨B, 0, none⟩ v0).setCell ⟨B, 1, none⟩ v1).setCell ⟨B, 2, none⟩ v2).setCell ⟨B, 3, none⟩ v3).setCell ⟨B, 4, none⟩ v4).setCell ⟨B, 5, none⟩ v5).setCell ⟨B, 6, none⟩ v6).heap[k]? = w'.heap[k]? := by
  have h : ∀ (W : World) (j : Nat) (v : Value), (W.setCell ⟨B, j, none⟩ v).heap[k]? = W.heap[k]? := fun W j v => Below.heap_setCell _ _ _ _ hk
  rw [h, h, h, h, h, h, h]
theorem cell_set7 {B k j : Nat} (w' : World) (hk : k ≠ B) (v0 v1 v2 v3 v4 v5 v6 : Value) :
    (((((((w'.setCell ⟨B, 0, none⟩ v0).setCell ⟨B, 1, none⟩ v1).setCell ⟨B, 2, none⟩ v2).setCell ⟨B, 3, none⟩ v3).setCell ⟨B, 4, none⟩ v4).setCell ⟨B, 5, none⟩ v5).setCell ⟨B, 6, none⟩ v6).cell? ⟨k, j, none⟩ = w'.cell? ⟨k, j, none⟩ :=
  World.cell?_of_block (a := ⟨k, j, none⟩) (heap_set7 w' hk v0 v1 v2 v3 v4 v5 v6)
theorem below_set7 {b B : Nat} {w w' : World} (h : Below b w w') (hB : b ≤ B) (v0 v1 v2 v3 v4 v5 v6 : Value) :
    Below b w (((((((w'.setCell ⟨B, 0, none⟩ v0).setCell ⟨B, 1, none⟩ v1).setCell ⟨B, 2, none⟩ v2).setCell ⟨B, 3, none⟩ v3).setCell ⟨B, 4, none⟩ v4).setCell ⟨B, 5, none⟩ v5).setCell ⟨B, 6, none⟩ v6) :=
  ((((((h.setCell hB _).setCell hB _).setCell hB _).setCell hB _).setCell hB _).setCell hB _).setCell hB _

end Go.Proofs.YtkgflmbhkbeakaaDoor

/- What content.Cut answers of a text that can be cut. -/
namespace Go.Proofs.YtkgflmbhkbeakaaDoor
open Go Go.RowKit Go.Lib
set_option linter.unusedVariables false
end Go.Proofs.YtkgflmbhkbeakaaDoor

/- What content.Join answers. -/
namespace Go.Proofs.YtkgflmbhkbeakaaDoor
open Go Go.RowKit Go.Lib
set_option linter.unusedVariables false

/-- What a join of two is refused with. -/
def joinE (o o' : Op5) : Nat := if insE o = 0 then insE o' else insE o
/-- Whether two inserts are joined. -/
def joinB (o o' : Op5) : Bool := decide (o.k = 1) && (decide (o'.k = 1) && decide (o.A = o'.A))
def joinO (o o' : Op5) : Op5 := ⟨1, o.t ++ o'.t, z0, 0, o.A⟩
abbrev bxJ (w : World) (o : Op5) (s : Value) (o' : Op5) (s' : Value) : World := ((w.alloc (.cells (opC o s) 63)).alloc (.cells (opC o' s') 63)).alloc (.cells (opC opZ nilS) 63)
theorem bxJ_below (w : World) (o : Op5) (s : Value) (o' : Op5) (s' : Value) : Below w.heap.size w (bxJ w o s o' s') := (((Below.refl w.heap.size w).alloc (Nat.le_refl _) _).alloc (by simp) _).alloc (by simp; omega) _
theorem bxJ_1 (w : World) (o : Op5) (s : Value) (o' : Op5) (s' : Value) : BoxO (bxJ w o s o' s') (w.heap.size + 1) o' s' := by
  have h1 := BoxO.new (w.alloc (.cells (opC o s) 63)) o' s'
  rw [World.size_alloc] at h1
  exact h1.below ((Below.refl _ _).alloc (Nat.le_refl _) _)
theorem bxJ_2 (w : World) (o : Op5) (s : Value) (o' : Op5) (s' : Value) : BoxO (bxJ w o s o' s') (w.heap.size + 1 + 1) opZ nilS ∧ FrO (bxJ w o s o' s') (w.heap.size + 1 + 1) := by
  have h1 := BoxO.new ((w.alloc (.cells (opC o s) 63)).alloc (.cells (opC o' s') 63)) opZ nilS
  have h2 := FrO.new ((w.alloc (.cells (opC o s) 63)).alloc (.cells (opC o' s') 63)) opZ nilS
  rw [World.size_alloc, World.size_alloc] at h1 h2
  exact ⟨h1, h2⟩

end Go.Proofs.YtkgflmbhkbeakaaDoor

/- content.textCells: the cells of a text. -/
namespace Go.Proofs.YtkgflmbhkbeakaaDoor
open Go Go.RowKit Go.Lib
set_option linter.unusedVariables false

/-- Cells of scalars with one list. -/
def mkC (A : List A2) (rs : List Nat) : List C5 := rs.map fun (r : Nat) => (((r : Nat) : Int), ⟨#[]⟩, z0, A)
theorem mkC_len (A : List A2) (rs : List Nat) : (mkC A rs).length = rs.length := by simp [mkC]
theorem keepA_iterAt {w : World} {K : Nat} {s : ByteArray} {p0 : Nat} (hk : w.heap[K]? = some (.stringIter s p0)) (p : Nat) : KeepA w (w.iterAt K s p) := fun k cur hc => by
  have hne : k ≠ K := fun e => by subst e; rw [hk] at hc; cases hc
  simp [World.iterAt, Ne.symm hne]
end Go.Proofs.YtkgflmbhkbeakaaDoor

/- What the values' methods answer: Kind, Plain; how values of the interface compare. -/
namespace Go.Proofs.YtkgflmbhkbeakaaDoor
open Go Go.RowKit Go.Lib
set_option linter.unusedVariables false
theorem plain_n (w : World) : Calls Tryd.prog 162 #[.agg #[]] w fun e w' => e = .returned (pl 0 0 ⟨#[]⟩) ∧ Below w.heap.size w w' := by
  go_enter Tryd.func162, Tryd.ntmps162
  go_wp2
  exact bodyPost_ret (v := pl 0 0 ⟨#[]⟩) (by simp [results, Tryd.results162, go_sem]) rfl ⟨rfl, by go_grown⟩
theorem plain_f (b : Bool) (w : World) : Calls Tryd.prog 156 #[.bool b] w fun e w' => e = .returned (pl 1 (if b then 1 else 0) ⟨#[]⟩) ∧ Below w.heap.size w w' := by
  cases b
  · go_enter Tryd.func156, Tryd.ntmps156
    go_wp2
    exact bodyPost_ret (v := pl 1 0 ⟨#[]⟩) (by simp [results, Tryd.results156, go_sem]) rfl ⟨rfl, by go_grown⟩
  · go_enter Tryd.func156, Tryd.ntmps156
    go_wp2
    exact bodyPost_ret (v := pl 1 1 ⟨#[]⟩) (by simp [results, Tryd.results156, go_sem]) rfl ⟨rfl, by go_grown⟩
theorem plain_d (n : Int) (w : World) : Calls Tryd.prog 158 #[.int .i64 n] w fun e w' => e = .returned (pl 2 n ⟨#[]⟩) ∧ Below w.heap.size w w' := by
  go_enter Tryd.func158, Tryd.ntmps158
  go_wp2
  exact bodyPost_ret (v := pl 2 n ⟨#[]⟩) (by simp [results, Tryd.results158, go_sem]) rfl ⟨rfl, by go_grown⟩
theorem plain_t (t : ByteArray) (w : World) : Calls Tryd.prog 160 #[.string t] w fun e w' => e = .returned (pl 3 0 t) ∧ Below w.heap.size w w' := by
  go_enter Tryd.func160, Tryd.ntmps160
  go_wp2
  exact bodyPost_ret (v := pl 3 0 t) (by simp [results, Tryd.results160, go_sem]) rfl ⟨rfl, by go_grown⟩

/-! '==' at api.Value. -/
theorem compNull : (Tryd.prog.info? 119).map (·.comparable) = some true := by kernel_rfl
theorem compFlag : (Tryd.prog.info? 115).map (·.comparable) = some true := by kernel_rfl
theorem compNum : (Tryd.prog.info? 116).map (·.comparable) = some true := by kernel_rfl
theorem compText : (Tryd.prog.info? 117).map (·.comparable) = some true := by kernel_rfl

theorem eql_same_type {tx : TypeId} {vx vy : Value} {b : Bool} (w : World) (hc : (Tryd.prog.info? tx).map (·.comparable) = some true)
    (h : ∀ d : Nat, (Op.equalIn (d + 1) tx vx vy).run Tryd.prog w = .ok b w) : (binOp .eql 40 (.iface tx vx) (.iface tx vy)).run Tryd.prog w = .ok (.bool b) w := by
  cases hi : Tryd.prog.info? tx with
  | none => simp [hi] at hc
  | some i =>
    have hcc : i.comparable = true := by simpa [hi] using hc
    have h2 : ∀ d : Nat, (Op.equalIn (d + 2) 40 (.iface tx vx) (.iface tx vy)).run Tryd.prog w = .ok b w := fun d => by
      rw [Op.equalIn]
      simp [run_underlying Tryd.underlying40, typeInfo, hi, hcc, h d]
    simp only [binOp]
    simp [Op.equal, Op.maxDepth, h2 9998]

theorem eql_null (w : World) : (binOp .eql 40 (.iface 119 (.agg #[])) (.iface 119 (.agg #[]))).run Tryd.prog w = .ok (.bool true) w :=
  eql_same_type w compNull fun d => by
    rw [run_equalIn_agg w d 119 _ _ (by kernel_rfl) (by kernel_rfl)]
    simp [Program.fieldsOf, Tryd.underlying119, Op.eqFields]
theorem eql_flag (a b : Bool) (w : World) : (binOp .eql 40 (.iface 115 (.bool a)) (.iface 115 (.bool b))).run Tryd.prog w = .ok (.bool (a == b)) w :=
  eql_same_type w compFlag fun d => run_equalIn_bool' w d _ a b Tryd.underlying115
theorem eql_num (a b : Int) (w : World) : (binOp .eql 40 (.iface 116 (.int .i64 a)) (.iface 116 (.int .i64 b))).run Tryd.prog w = .ok (.bool (a == b)) w :=
  eql_same_type w compNum fun d => run_equalIn_int w d _ .i64 .i64 a b Tryd.underlying116
theorem eql_text (a b : ByteArray) (w : World) : (binOp .eql 40 (.iface 117 (.string a)) (.iface 117 (.string b))).run Tryd.prog w = .ok (.bool (a.toList == b.toList)) w :=
  eql_same_type w compText fun d => run_equalIn_string w d _ a b Tryd.underlying117
theorem eql_types {tx ty : TypeId} (vx vy : Value) (h : tx ≠ ty) (w : World) : (binOp .eql 40 (.iface tx vx) (.iface ty vy)).run Tryd.prog w = .ok (.bool false) w :=
  run_eql_iface_types tx ty vx vy Tryd.underlying40 h w
end Go.Proofs.YtkgflmbhkbeakaaDoor

/- What content.Cells and content.Newlines answer. -/
namespace Go.Proofs.YtkgflmbhkbeakaaDoor
open Go Go.RowKit Go.Lib
set_option linter.unusedVariables false

/-- An insert's cells. -/
def cellsOf (o : Op5) : List C5 := if o.k = 1 then mkC o.A (scs o.t.data.toList) else [(-1, o.t, o.v, o.A)]
theorem cellsOf_len (o : Op5) : (cellsOf o).length = lenO o := by
  unfold cellsOf lenO
  split
  · exact mkC_len _ _
  · rfl
theorem cellsOf_A (o : Op5) : ∀ e ∈ cellsOf o, e.2.2.2 = o.A := fun e he => by
  unfold cellsOf at he
  split at he
  · unfold mkC at he
    obtain ⟨r, _, rfl⟩ := List.mem_map.1 he
    rfl
  · obtain rfl := List.mem_singleton.1 he
    rfl
/-- How many newlines an insert has. -/
def newlO (o : Op5) : Nat := if o.k = 1 then countByte o.t.data.toList 10 else 0

theorem plain_f0 (w : World) : Calls Tryd.prog 156 #[.bool false] w fun e w' => e = .returned (pl 1 0 ⟨#[]⟩) ∧ Below w.heap.size w w' := plain_f false w
theorem plain_f1 (w : World) : Calls Tryd.prog 156 #[.bool true] w fun e w' => e = .returned (pl 1 1 ⟨#[]⟩) ∧ Below w.heap.size w w' := plain_f true w

end Go.Proofs.YtkgflmbhkbeakaaDoor

/- What the methods Op of api.Insert and api.Embed answer. -/
namespace Go.Proofs.YtkgflmbhkbeakaaDoor
open Go Go.RowKit Go.Lib
set_option linter.unusedVariables false

theorem cell_drew0 (W : World) (a : Addr) : W.drew.cell? a = W.cell? a := rfl
set_option maxHeartbeats 1000000 in
set_option maxRecDepth 100000 in
theorem insOp (s : Value) (A : List A2) (t : ByteArray) (n : Int) (w : World) (hR : RN w s A) (hl : A.length ≤ 2097152) :
    Calls Tryd.prog 148 #[.agg #[s, .string t, .int .i64 n]] w fun r w' => ∃ v', r = .returned (opV ⟨1, t, z0, 0, []⟩ v') ∧ OwnA w' w.heap.size v' A ∧ Below w.heap.size w w' := by
  have HC : Hid (∀ W, Below w.heap.size w W → Calls Tryd.prog 146 #[.agg #[s]] W fun r w' => ∃ v', r = .returned v' ∧ OwnA w' W.heap.size v' A ∧ Below W.heap.size W w') := fun W hW => attributes_any s A W (hR.row.below hW) hR.nz hl
  obtain ⟨p, l, cc, rfl⟩ : ∃ p l c, s = .slice p l c := by obtain ⟨p, c, h, _⟩ := hR.row.val; exact ⟨_, _, _, h⟩
  clear hR hl
  obtain ⟨W1, hW1⟩ : ∃ W, W = (w.alloc (.cells #[.slice p l cc, .string t, .int .i64 n] 91)).alloc (.cells #[.int .i64 0, .string ⟨#[]⟩, .int .i64 0, .int .i64 0, .string ⟨#[]⟩, .int .i64 0, .slice none 0 0] 63) := ⟨_, rfl⟩
  have b0 : Below w.heap.size w W1 := by rw [hW1]; exact ((Below.refl _ _).alloc (Nat.le_refl _) _).alloc (by simp) _
  have e0 : W1.cell? ⟨w.heap.size, 0, none⟩ = some (.slice p l cc) := by rw [hW1]; simp
  have e1 : W1.cell? ⟨w.heap.size, 1, none⟩ = some (.string t) := by rw [hW1]; simp
  have hB : BoxO W1 (w.heap.size + 1) opZ nilS ∧ FrO W1 (w.heap.size + 1) := by
    have q1 := BoxO.new (w.alloc (.cells #[.slice p l cc, .string t, .int .i64 n] 91)) opZ nilS
    have q2 := FrO.new (w.alloc (.cells #[.slice p l cc, .string t, .int .i64 n] 91)) opZ nilS
    rw [World.size_alloc] at q1 q2
    rw [hW1]
    exact ⟨q1, q2⟩
  go_enter Tryd.func148, Tryd.ntmps148
  go_upto_region 1 with fail
  rw [← hW1]
  clear hW1
  have HB : Hid (BoxO W1.drew (w.heap.size + 1) opZ nilS ∧ FrO W1.drew (w.heap.size + 1)) := ⟨hB.1.drew, hB.2.drew⟩
  have b1 : Below w.heap.size w W1.drew := b0.drew
  have hz1 : w.heap.size ≤ W1.drew.heap.size := b1.size
  have hz2 : w.heap.size + 1 < W1.drew.heap.size := lt_of_cell hB.1.d0
  have cA := HC.out W1.drew b1
  have n1 : w.heap.size ≠ w.heap.size + 1 := by omega
  have hs1 : w.heap.size ≤ w.heap.size + 1 := by omega
  have HU : Hid (∀ W : World, (∀ i, W.cell? ⟨w.heap.size, i, none⟩ = W1.drew.cell? ⟨w.heap.size, i, none⟩) → W.cell? ⟨w.heap.size, 0, none⟩ = some (.slice p l cc) ∧ W.cell? ⟨w.heap.size, 1, none⟩ = some (.string t)) := fun W h => ⟨(h 0).trans e0, (h 1).trans e1⟩
  have M0 := HU.out W1.drew (fun _ => rfl)
  have HW : Hid (∀ W, Below W1.drew.heap.size W1.drew W → ∀ i, W.cell? ⟨w.heap.size, i, none⟩ = W1.drew.cell? ⟨w.heap.size, i, none⟩) := fun W h i => World.cell?_of_block (a := ⟨w.heap.size, i, none⟩) (h.block w.heap.size (by omega))
  have HS : Hid (∀ W, Below W1.drew.heap.size W1.drew W → (∀ u0 u1 u2 u3 u4 u5 u6 : Value, ((((((((W.setCell ⟨w.heap.size + 1, 0, none⟩ u0).setCell ⟨w.heap.size + 1, 1, none⟩ u1).setCell ⟨w.heap.size + 1, 2, none⟩ u2).setCell ⟨w.heap.size + 1, 3, none⟩ u3).setCell ⟨w.heap.size + 1, 4, none⟩ u4).setCell ⟨w.heap.size + 1, 5, none⟩ u5).setCell ⟨w.heap.size + 1, 6, none⟩ u6).cell? ⟨w.heap.size, 0, none⟩ = some (.slice p l cc) ∧ (((((((W.setCell ⟨w.heap.size + 1, 0, none⟩ u0).setCell ⟨w.heap.size + 1, 1, none⟩ u1).setCell ⟨w.heap.size + 1, 2, none⟩ u2).setCell ⟨w.heap.size + 1, 3, none⟩ u3).setCell ⟨w.heap.size + 1, 4, none⟩ u4).setCell ⟨w.heap.size + 1, 5, none⟩ u5).setCell ⟨w.heap.size + 1, 6, none⟩ u6).cell? ⟨w.heap.size, 1, none⟩ = some (.string t)) ∧ Below w.heap.size w (((((((W.setCell ⟨w.heap.size + 1, 0, none⟩ u0).setCell ⟨w.heap.size + 1, 1, none⟩ u1).setCell ⟨w.heap.size + 1, 2, none⟩ u2).setCell ⟨w.heap.size + 1, 3, none⟩ u3).setCell ⟨w.heap.size + 1, 4, none⟩ u4).setCell ⟨w.heap.size + 1, 5, none⟩ u5).setCell ⟨w.heap.size + 1, 6, none⟩ u6))) := fun W h u0 u1 u2 u3 u4 u5 u6 => ⟨HU.out _ (fun i => (cell_set7 (B := w.heap.size + 1) (j := i) W n1 u0 u1 u2 u3 u4 u5 u6).trans (HW.out W h i)), below_set7 (B := w.heap.size + 1) (b1.trans (h.mono hz1)) hs1 u0 u1 u2 u3 u4 u5 u6⟩
  clear hB e0 e1 b0
  go_region_held3 (fun w' => (w'.cell? ⟨w.heap.size, 0, none⟩ = some (.slice p l cc) ∧ w'.cell? ⟨w.heap.size, 1, none⟩ = some (.string t)) ∧ Below w.heap.size w w')
    (first | exact ⟨by with_reducible first | assumption | exact M0 | exact MS _ _ _ _ _ _ _, by with_reducible first | assumption | exact b1 | exact BS _ _ _ _ _ _ _⟩)
    (first
      | (go_at_call 146; refine cA.mono ?_; rintro r wA ⟨vA, rfl, oA, hA⟩; obtain ⟨pA, cA', rfl⟩ := own_slice oA; have HA' := hA; have bA := b1.trans (HA'.mono hz1); have mA := HU.out wA (HW.out wA HA'); have OA : Hid (OwnA wA W1.drew.heap.size (.slice pA A.length cA') A) := oA; clear oA; obtain ⟨q0, q1, q2, q3, q4, q5, q6⟩ := HB.out.1.below HA'; obtain ⟨h0, h1, h2, h3, h4, h5, h6⟩ := HB.out.2.below HB.out.1 HA'; simp only [z0] at q0 q1 q2 q3 q4 q5 q6; have MS := fun u0 u1 u2 u3 u4 u5 u6 => (HS.out wA HA' u0 u1 u2 u3 u4 u5 u6).1; have BS := fun u0 u1 u2 u3 u4 u5 u6 => (HS.out wA HA' u0 u1 u2 u3 u4 u5 u6).2))
  · have same : ∀ (u0 u1 u2 u3 u4 u5 u6 : Value) (v : Value) (hv : OwnA wA W1.drew.heap.size v A), OwnA (((((((wA.setCell ⟨w.heap.size + 1, 0, none⟩ u0).setCell ⟨w.heap.size + 1, 1, none⟩ u1).setCell ⟨w.heap.size + 1, 2, none⟩ u2).setCell ⟨w.heap.size + 1, 3, none⟩ u3).setCell ⟨w.heap.size + 1, 4, none⟩ u4).setCell ⟨w.heap.size + 1, 5, none⟩ u5).setCell ⟨w.heap.size + 1, 6, none⟩ u6) w.heap.size v A := fun u0 u1 u2 u3 u4 u5 u6 v hv =>
      own_weaken (owns_same hv fun k hk => by
        have := (owns_block hv k hk).1
        exact heap_set7 _ (by omega) _ _ _ _ _ _ _) hz1
    go_wp2
    exact bodyPost_ret (v := opV ⟨1, t, z0, 0, []⟩ (.slice pA A.length cA')) (by simp [results, Tryd.results148, go_sem, z0, q0, q1, q2, q3, q4, q5, q6]) rfl ⟨_, rfl, same _ _ _ _ _ _ _ _ OA.out, BS _ _ _ _ _ _ _⟩

set_option maxHeartbeats 1000000 in
set_option maxRecDepth 100000 in
theorem embOp_null (s : Value) (A : List A2) (t : ByteArray) (w : World) (hR : RN w s A) (hl : A.length ≤ 2097152) :
    Calls Tryd.prog 150 #[.agg #[s, .string t, .iface 119 (.agg #[])]] w fun r w' => ∃ v', r = .returned (opV ⟨2, t, z0, 0, []⟩ v') ∧ OwnA w' w.heap.size v' A ∧ Below w.heap.size w w' := by
  have HC : Hid (∀ W, Below w.heap.size w W → Calls Tryd.prog 146 #[.agg #[s]] W fun r w' => ∃ v', r = .returned v' ∧ OwnA w' W.heap.size v' A ∧ Below W.heap.size W w') := fun W hW => attributes_any s A W (hR.row.below hW) hR.nz hl
  obtain ⟨p, l, cc, rfl⟩ : ∃ p l c, s = .slice p l c := by obtain ⟨p, c, h, _⟩ := hR.row.val; exact ⟨_, _, _, h⟩
  clear hR hl
  obtain ⟨W1, hW1⟩ : ∃ W, W = (w.alloc (.cells #[.slice p l cc, .string t, .iface 119 (.agg #[])] 93)).alloc (.cells #[.int .i64 0, .string ⟨#[]⟩, .int .i64 0, .int .i64 0, .string ⟨#[]⟩, .int .i64 0, .slice none 0 0] 63) := ⟨_, rfl⟩
  have b0 : Below w.heap.size w W1 := by rw [hW1]; exact ((Below.refl _ _).alloc (Nat.le_refl _) _).alloc (by simp) _
  have e0 : W1.cell? ⟨w.heap.size, 0, none⟩ = some (.slice p l cc) := by rw [hW1]; simp
  have e1 : W1.cell? ⟨w.heap.size, 1, none⟩ = some (.string t) := by rw [hW1]; simp
  have e2 : W1.cell? ⟨w.heap.size, 2, none⟩ = some (.iface 119 (.agg #[])) := by rw [hW1]; simp
  have hB : BoxO W1 (w.heap.size + 1) opZ nilS ∧ FrO W1 (w.heap.size + 1) := by
    have q1 := BoxO.new (w.alloc (.cells #[.slice p l cc, .string t, .iface 119 (.agg #[])] 93)) opZ nilS
    have q2 := FrO.new (w.alloc (.cells #[.slice p l cc, .string t, .iface 119 (.agg #[])] 93)) opZ nilS
    rw [World.size_alloc] at q1 q2
    rw [hW1]
    exact ⟨q1, q2⟩
  go_enter Tryd.func150, Tryd.ntmps150
  go_upto_region 1 with fail
  rw [← hW1]
  clear hW1
  have HB : Hid (BoxO W1.drew (w.heap.size + 1) opZ nilS ∧ FrO W1.drew (w.heap.size + 1)) := ⟨hB.1.drew, hB.2.drew⟩
  have b1 : Below w.heap.size w W1.drew := b0.drew
  have hz1 : w.heap.size ≤ W1.drew.heap.size := b1.size
  have hz2 : w.heap.size + 1 < W1.drew.heap.size := lt_of_cell hB.1.d0
  have cA := HC.out W1.drew b1
  have n1 : w.heap.size ≠ w.heap.size + 1 := by omega
  have hs1 : w.heap.size ≤ w.heap.size + 1 := by omega
  have HU : Hid (∀ W : World, (∀ i, W.cell? ⟨w.heap.size, i, none⟩ = W1.drew.cell? ⟨w.heap.size, i, none⟩) → W.cell? ⟨w.heap.size, 0, none⟩ = some (.slice p l cc) ∧ W.cell? ⟨w.heap.size, 1, none⟩ = some (.string t) ∧ W.cell? ⟨w.heap.size, 2, none⟩ = some (.iface 119 (.agg #[]))) := fun W h => ⟨(h 0).trans e0, (h 1).trans e1, (h 2).trans e2⟩
  have M0 := HU.out W1.drew (fun _ => rfl)
  have HW : Hid (∀ W, Below W1.drew.heap.size W1.drew W → ∀ i, W.cell? ⟨w.heap.size, i, none⟩ = W1.drew.cell? ⟨w.heap.size, i, none⟩) := fun W h i => World.cell?_of_block (a := ⟨w.heap.size, i, none⟩) (h.block w.heap.size (by omega))
  have HS : Hid (∀ W, Below W1.drew.heap.size W1.drew W → (∀ u0 u1 u2 u3 u4 u5 u6 : Value, ((((((((W.setCell ⟨w.heap.size + 1, 0, none⟩ u0).setCell ⟨w.heap.size + 1, 1, none⟩ u1).setCell ⟨w.heap.size + 1, 2, none⟩ u2).setCell ⟨w.heap.size + 1, 3, none⟩ u3).setCell ⟨w.heap.size + 1, 4, none⟩ u4).setCell ⟨w.heap.size + 1, 5, none⟩ u5).setCell ⟨w.heap.size + 1, 6, none⟩ u6).cell? ⟨w.heap.size, 0, none⟩ = some (.slice p l cc) ∧ (((((((W.setCell ⟨w.heap.size + 1, 0, none⟩ u0).setCell ⟨w.heap.size + 1, 1, none⟩ u1).setCell ⟨w.heap.size + 1, 2, none⟩ u2).setCell ⟨w.heap.size + 1, 3, none⟩ u3).setCell ⟨w.heap.size + 1, 4, none⟩ u4).setCell ⟨w.heap.size + 1, 5, none⟩ u5).setCell ⟨w.heap.size + 1, 6, none⟩ u6).cell? ⟨w.heap.size, 1, none⟩ = some (.string t) ∧ (((((((W.setCell ⟨w.heap.size + 1, 0, none⟩ u0).setCell ⟨w.heap.size + 1, 1, none⟩ u1).setCell ⟨w.heap.size + 1, 2, none⟩ u2).setCell ⟨w.heap.size + 1, 3, none⟩ u3).setCell ⟨w.heap.size + 1, 4, none⟩ u4).setCell ⟨w.heap.size + 1, 5, none⟩ u5).setCell ⟨w.heap.size + 1, 6, none⟩ u6).cell? ⟨w.heap.size, 2, none⟩ = some (.iface 119 (.agg #[]))) ∧ Below w.heap.size w (((((((W.setCell ⟨w.heap.size + 1, 0, none⟩ u0).setCell ⟨w.heap.size + 1, 1, none⟩ u1).setCell ⟨w.heap.size + 1, 2, none⟩ u2).setCell ⟨w.heap.size + 1, 3, none⟩ u3).setCell ⟨w.heap.size + 1, 4, none⟩ u4).setCell ⟨w.heap.size + 1, 5, none⟩ u5).setCell ⟨w.heap.size + 1, 6, none⟩ u6))) := fun W h u0 u1 u2 u3 u4 u5 u6 => ⟨HU.out _ (fun i => (cell_set7 (B := w.heap.size + 1) (j := i) W n1 u0 u1 u2 u3 u4 u5 u6).trans (HW.out W h i)), below_set7 (B := w.heap.size + 1) (b1.trans (h.mono hz1)) hs1 u0 u1 u2 u3 u4 u5 u6⟩
  clear hB e0 e1 e2 b0
  go_region_held3 (fun w' => (w'.cell? ⟨w.heap.size, 0, none⟩ = some (.slice p l cc) ∧ w'.cell? ⟨w.heap.size, 1, none⟩ = some (.string t) ∧ w'.cell? ⟨w.heap.size, 2, none⟩ = some (.iface 119 (.agg #[]))) ∧ Below w.heap.size w w')
    (first | exact ⟨by with_reducible first | assumption | exact M0 | exact MS _ _ _ _ _ _ _, by with_reducible first | assumption | exact b1 | exact BS _ _ _ _ _ _ _⟩)
    (first
      | (go_at_call 162; have hx := OA; clear hx; refine (plain_n wA).mono ?_; rintro r wP ⟨rfl, hP⟩; have HP' := HA'.trans (hP.mono HA'.size); have bP := b1.trans (HP'.mono hz1); have mP := HU.out wP (HW.out wP HP'); have OF : Hid (OwnA wP W1.drew.heap.size (.slice pA A.length cA') A) := owns_below OA.out hP; obtain ⟨q0, q1, q2, q3, q4, q5, q6⟩ := HB.out.1.below HP'; obtain ⟨h0, h1, h2, h3, h4, h5, h6⟩ := HB.out.2.below HB.out.1 HP'; simp only [z0] at q0 q1 q2 q3 q4 q5 q6; have MS := fun u0 u1 u2 u3 u4 u5 u6 => (HS.out wP HP' u0 u1 u2 u3 u4 u5 u6).1; have BS := fun u0 u1 u2 u3 u4 u5 u6 => (HS.out wP HP' u0 u1 u2 u3 u4 u5 u6).2)
      | (go_at_call 146; refine cA2.mono ?_; rintro r wA ⟨vA, rfl, oA, hA⟩; obtain ⟨pA, cA', rfl⟩ := own_slice oA; have HA' := HP'.trans (hA.mono HP'.size); have bA := b1.trans (HA'.mono hz1); have mA := HU.out wA (HW.out wA HA'); have OA : Hid (OwnA wA W1.drew.heap.size (.slice pA A.length cA') A) := own_weaken oA HP'.size; clear oA; have OF := OA; obtain ⟨q0, q1, q2, q3, q4, q5, q6⟩ := HB.out.1.below HA'; obtain ⟨h0, h1, h2, h3, h4, h5, h6⟩ := HB.out.2.below HB.out.1 HA'; simp only [z0] at q0 q1 q2 q3 q4 q5 q6; have MS := fun u0 u1 u2 u3 u4 u5 u6 => (HS.out wA HA' u0 u1 u2 u3 u4 u5 u6).1; have BS := fun u0 u1 u2 u3 u4 u5 u6 => (HS.out wA HA' u0 u1 u2 u3 u4 u5 u6).2)
      | (go_at_call 146; refine cA.mono ?_; rintro r wA ⟨vA, rfl, oA, hA⟩; obtain ⟨pA, cA', rfl⟩ := own_slice oA; have HA' := hA; have bA := b1.trans (HA'.mono hz1); have mA := HU.out wA (HW.out wA HA'); have OA : Hid (OwnA wA W1.drew.heap.size (.slice pA A.length cA') A) := oA; clear oA)
      | (go_at_call 162; refine (plain_n W1.drew).mono ?_; rintro r wP ⟨rfl, hP⟩; have HP' := hP; have bP := b1.trans (HP'.mono hz1); have mP := HU.out wP (HW.out wP HP'); have cA2 := HC.out wP bP))
  · have same : ∀ (u0 u1 u2 u3 u4 u5 u6 : Value) (v : Value) (hv : OwnA wA W1.drew.heap.size v A), OwnA (((((((wA.setCell ⟨w.heap.size + 1, 0, none⟩ u0).setCell ⟨w.heap.size + 1, 1, none⟩ u1).setCell ⟨w.heap.size + 1, 2, none⟩ u2).setCell ⟨w.heap.size + 1, 3, none⟩ u3).setCell ⟨w.heap.size + 1, 4, none⟩ u4).setCell ⟨w.heap.size + 1, 5, none⟩ u5).setCell ⟨w.heap.size + 1, 6, none⟩ u6) w.heap.size v A := fun u0 u1 u2 u3 u4 u5 u6 v hv =>
      own_weaken (owns_same hv fun k hk => by
        have := (owns_block hv k hk).1
        exact heap_set7 _ (by omega) _ _ _ _ _ _ _) hz1
    go_wp2
    exact bodyPost_ret (v := opV ⟨2, t, z0, 0, []⟩ (.slice pA A.length cA')) (by simp [results, Tryd.results150, go_sem, z0, q0, q1, q2, q3, q4, q5, q6]) rfl ⟨_, rfl, same _ _ _ _ _ _ _ _ OF.out, BS _ _ _ _ _ _ _⟩

set_option maxHeartbeats 1000000 in
set_option maxRecDepth 100000 in
theorem embOp_flag0 (s : Value) (A : List A2) (t : ByteArray) (w : World) (hR : RN w s A) (hl : A.length ≤ 2097152) :
    Calls Tryd.prog 150 #[.agg #[s, .string t, .iface 115 (.bool false)]] w fun r w' => ∃ v', r = .returned (opV ⟨2, t, (1, 0, ⟨#[]⟩), 0, []⟩ v') ∧ OwnA w' w.heap.size v' A ∧ Below w.heap.size w w' := by
  have HC : Hid (∀ W, Below w.heap.size w W → Calls Tryd.prog 146 #[.agg #[s]] W fun r w' => ∃ v', r = .returned v' ∧ OwnA w' W.heap.size v' A ∧ Below W.heap.size W w') := fun W hW => attributes_any s A W (hR.row.below hW) hR.nz hl
  obtain ⟨p, l, cc, rfl⟩ : ∃ p l c, s = .slice p l c := by obtain ⟨p, c, h, _⟩ := hR.row.val; exact ⟨_, _, _, h⟩
  clear hR hl
  obtain ⟨W1, hW1⟩ : ∃ W, W = (w.alloc (.cells #[.slice p l cc, .string t, .iface 115 (.bool false)] 93)).alloc (.cells #[.int .i64 0, .string ⟨#[]⟩, .int .i64 0, .int .i64 0, .string ⟨#[]⟩, .int .i64 0, .slice none 0 0] 63) := ⟨_, rfl⟩
  have b0 : Below w.heap.size w W1 := by rw [hW1]; exact ((Below.refl _ _).alloc (Nat.le_refl _) _).alloc (by simp) _
  have e0 : W1.cell? ⟨w.heap.size, 0, none⟩ = some (.slice p l cc) := by rw [hW1]; simp
  have e1 : W1.cell? ⟨w.heap.size, 1, none⟩ = some (.string t) := by rw [hW1]; simp
  have e2 : W1.cell? ⟨w.heap.size, 2, none⟩ = some (.iface 115 (.bool false)) := by rw [hW1]; simp
  have hB : BoxO W1 (w.heap.size + 1) opZ nilS ∧ FrO W1 (w.heap.size + 1) := by
    have q1 := BoxO.new (w.alloc (.cells #[.slice p l cc, .string t, .iface 115 (.bool false)] 93)) opZ nilS
    have q2 := FrO.new (w.alloc (.cells #[.slice p l cc, .string t, .iface 115 (.bool false)] 93)) opZ nilS
    rw [World.size_alloc] at q1 q2
    rw [hW1]
    exact ⟨q1, q2⟩
  go_enter Tryd.func150, Tryd.ntmps150
  go_upto_region 1 with fail
  rw [← hW1]
  clear hW1
  have HB : Hid (BoxO W1.drew (w.heap.size + 1) opZ nilS ∧ FrO W1.drew (w.heap.size + 1)) := ⟨hB.1.drew, hB.2.drew⟩
  have b1 : Below w.heap.size w W1.drew := b0.drew
  have hz1 : w.heap.size ≤ W1.drew.heap.size := b1.size
  have hz2 : w.heap.size + 1 < W1.drew.heap.size := lt_of_cell hB.1.d0
  have cA := HC.out W1.drew b1
  have n1 : w.heap.size ≠ w.heap.size + 1 := by omega
  have hs1 : w.heap.size ≤ w.heap.size + 1 := by omega
  have HU : Hid (∀ W : World, (∀ i, W.cell? ⟨w.heap.size, i, none⟩ = W1.drew.cell? ⟨w.heap.size, i, none⟩) → W.cell? ⟨w.heap.size, 0, none⟩ = some (.slice p l cc) ∧ W.cell? ⟨w.heap.size, 1, none⟩ = some (.string t) ∧ W.cell? ⟨w.heap.size, 2, none⟩ = some (.iface 115 (.bool false))) := fun W h => ⟨(h 0).trans e0, (h 1).trans e1, (h 2).trans e2⟩
  have M0 := HU.out W1.drew (fun _ => rfl)
  have HW : Hid (∀ W, Below W1.drew.heap.size W1.drew W → ∀ i, W.cell? ⟨w.heap.size, i, none⟩ = W1.drew.cell? ⟨w.heap.size, i, none⟩) := fun W h i => World.cell?_of_block (a := ⟨w.heap.size, i, none⟩) (h.block w.heap.size (by omega))
  have HS : Hid (∀ W, Below W1.drew.heap.size W1.drew W → (∀ u0 u1 u2 u3 u4 u5 u6 : Value, ((((((((W.setCell ⟨w.heap.size + 1, 0, none⟩ u0).setCell ⟨w.heap.size + 1, 1, none⟩ u1).setCell ⟨w.heap.size + 1, 2, none⟩ u2).setCell ⟨w.heap.size + 1, 3, none⟩ u3).setCell ⟨w.heap.size + 1, 4, none⟩ u4).setCell ⟨w.heap.size + 1, 5, none⟩ u5).setCell ⟨w.heap.size + 1, 6, none⟩ u6).cell? ⟨w.heap.size, 0, none⟩ = some (.slice p l cc) ∧ (((((((W.setCell ⟨w.heap.size + 1, 0, none⟩ u0).setCell ⟨w.heap.size + 1, 1, none⟩ u1).setCell ⟨w.heap.size + 1, 2, none⟩ u2).setCell ⟨w.heap.size + 1, 3, none⟩ u3).setCell ⟨w.heap.size + 1, 4, none⟩ u4).setCell ⟨w.heap.size + 1, 5, none⟩ u5).setCell ⟨w.heap.size + 1, 6, none⟩ u6).cell? ⟨w.heap.size, 1, none⟩ = some (.string t) ∧ (((((((W.setCell ⟨w.heap.size + 1, 0, none⟩ u0).setCell ⟨w.heap.size + 1, 1, none⟩ u1).setCell ⟨w.heap.size + 1, 2, none⟩ u2).setCell ⟨w.heap.size + 1, 3, none⟩ u3).setCell ⟨w.heap.size + 1, 4, none⟩ u4).setCell ⟨w.heap.size + 1, 5, none⟩ u5).setCell ⟨w.heap.size + 1, 6, none⟩ u6).cell? ⟨w.heap.size, 2, none⟩ = some (.iface 115 (.bool false))) ∧ Below w.heap.size w (((((((W.setCell ⟨w.heap.size + 1, 0, none⟩ u0).setCell ⟨w.heap.size + 1, 1, none⟩ u1).setCell ⟨w.heap.size + 1, 2, none⟩ u2).setCell ⟨w.heap.size + 1, 3, none⟩ u3).setCell ⟨w.heap.size + 1, 4, none⟩ u4).setCell ⟨w.heap.size + 1, 5, none⟩ u5).setCell ⟨w.heap.size + 1, 6, none⟩ u6))) := fun W h u0 u1 u2 u3 u4 u5 u6 => ⟨HU.out _ (fun i => (cell_set7 (B := w.heap.size + 1) (j := i) W n1 u0 u1 u2 u3 u4 u5 u6).trans (HW.out W h i)), below_set7 (B := w.heap.size + 1) (b1.trans (h.mono hz1)) hs1 u0 u1 u2 u3 u4 u5 u6⟩
  clear hB e0 e1 e2 b0
  go_region_held3 (fun w' => (w'.cell? ⟨w.heap.size, 0, none⟩ = some (.slice p l cc) ∧ w'.cell? ⟨w.heap.size, 1, none⟩ = some (.string t) ∧ w'.cell? ⟨w.heap.size, 2, none⟩ = some (.iface 115 (.bool false))) ∧ Below w.heap.size w w')
    (first | exact ⟨by with_reducible first | assumption | exact M0 | exact MS _ _ _ _ _ _ _, by with_reducible first | assumption | exact b1 | exact BS _ _ _ _ _ _ _⟩)
    (first
      | (go_at_call 156; have hx := OA; clear hx; refine (plain_f0 wA).mono ?_; rintro r wP ⟨rfl, hP⟩; have HP' := HA'.trans (hP.mono HA'.size); have bP := b1.trans (HP'.mono hz1); have mP := HU.out wP (HW.out wP HP'); have OF : Hid (OwnA wP W1.drew.heap.size (.slice pA A.length cA') A) := owns_below OA.out hP; obtain ⟨q0, q1, q2, q3, q4, q5, q6⟩ := HB.out.1.below HP'; obtain ⟨h0, h1, h2, h3, h4, h5, h6⟩ := HB.out.2.below HB.out.1 HP'; simp only [z0] at q0 q1 q2 q3 q4 q5 q6; have MS := fun u0 u1 u2 u3 u4 u5 u6 => (HS.out wP HP' u0 u1 u2 u3 u4 u5 u6).1; have BS := fun u0 u1 u2 u3 u4 u5 u6 => (HS.out wP HP' u0 u1 u2 u3 u4 u5 u6).2)
      | (go_at_call 146; refine cA2.mono ?_; rintro r wA ⟨vA, rfl, oA, hA⟩; obtain ⟨pA, cA', rfl⟩ := own_slice oA; have HA' := HP'.trans (hA.mono HP'.size); have bA := b1.trans (HA'.mono hz1); have mA := HU.out wA (HW.out wA HA'); have OA : Hid (OwnA wA W1.drew.heap.size (.slice pA A.length cA') A) := own_weaken oA HP'.size; clear oA; have OF := OA; obtain ⟨q0, q1, q2, q3, q4, q5, q6⟩ := HB.out.1.below HA'; obtain ⟨h0, h1, h2, h3, h4, h5, h6⟩ := HB.out.2.below HB.out.1 HA'; simp only [z0] at q0 q1 q2 q3 q4 q5 q6; have MS := fun u0 u1 u2 u3 u4 u5 u6 => (HS.out wA HA' u0 u1 u2 u3 u4 u5 u6).1; have BS := fun u0 u1 u2 u3 u4 u5 u6 => (HS.out wA HA' u0 u1 u2 u3 u4 u5 u6).2)
      | (go_at_call 146; refine cA.mono ?_; rintro r wA ⟨vA, rfl, oA, hA⟩; obtain ⟨pA, cA', rfl⟩ := own_slice oA; have HA' := hA; have bA := b1.trans (HA'.mono hz1); have mA := HU.out wA (HW.out wA HA'); have OA : Hid (OwnA wA W1.drew.heap.size (.slice pA A.length cA') A) := oA; clear oA)
      | (go_at_call 156; refine (plain_f0 W1.drew).mono ?_; rintro r wP ⟨rfl, hP⟩; have HP' := hP; have bP := b1.trans (HP'.mono hz1); have mP := HU.out wP (HW.out wP HP'); have cA2 := HC.out wP bP))
  · have same : ∀ (u0 u1 u2 u3 u4 u5 u6 : Value) (v : Value) (hv : OwnA wA W1.drew.heap.size v A), OwnA (((((((wA.setCell ⟨w.heap.size + 1, 0, none⟩ u0).setCell ⟨w.heap.size + 1, 1, none⟩ u1).setCell ⟨w.heap.size + 1, 2, none⟩ u2).setCell ⟨w.heap.size + 1, 3, none⟩ u3).setCell ⟨w.heap.size + 1, 4, none⟩ u4).setCell ⟨w.heap.size + 1, 5, none⟩ u5).setCell ⟨w.heap.size + 1, 6, none⟩ u6) w.heap.size v A := fun u0 u1 u2 u3 u4 u5 u6 v hv =>
      own_weaken (owns_same hv fun k hk => by
        have := (owns_block hv k hk).1
        exact heap_set7 _ (by omega) _ _ _ _ _ _ _) hz1
    go_wp2
    exact bodyPost_ret (v := opV ⟨2, t, (1, 0, ⟨#[]⟩), 0, []⟩ (.slice pA A.length cA')) (by simp [results, Tryd.results150, go_sem, q0, q1, q2, q3, q4, q5, q6]) rfl ⟨_, rfl, same _ _ _ _ _ _ _ _ OF.out, BS _ _ _ _ _ _ _⟩

set_option maxHeartbeats 1000000 in
set_option maxRecDepth 100000 in
theorem embOp_flag1 (s : Value) (A : List A2) (t : ByteArray) (w : World) (hR : RN w s A) (hl : A.length ≤ 2097152) :
    Calls Tryd.prog 150 #[.agg #[s, .string t, .iface 115 (.bool true)]] w fun r w' => ∃ v', r = .returned (opV ⟨2, t, (1, 1, ⟨#[]⟩), 0, []⟩ v') ∧ OwnA w' w.heap.size v' A ∧ Below w.heap.size w w' := by
  have HC : Hid (∀ W, Below w.heap.size w W → Calls Tryd.prog 146 #[.agg #[s]] W fun r w' => ∃ v', r = .returned v' ∧ OwnA w' W.heap.size v' A ∧ Below W.heap.size W w') := fun W hW => attributes_any s A W (hR.row.below hW) hR.nz hl
  obtain ⟨p, l, cc, rfl⟩ : ∃ p l c, s = .slice p l c := by obtain ⟨p, c, h, _⟩ := hR.row.val; exact ⟨_, _, _, h⟩
  clear hR hl
  obtain ⟨W1, hW1⟩ : ∃ W, W = (w.alloc (.cells #[.slice p l cc, .string t, .iface 115 (.bool true)] 93)).alloc (.cells #[.int .i64 0, .string ⟨#[]⟩, .int .i64 0, .int .i64 0, .string ⟨#[]⟩, .int .i64 0, .slice none 0 0] 63) := ⟨_, rfl⟩
  have b0 : Below w.heap.size w W1 := by rw [hW1]; exact ((Below.refl _ _).alloc (Nat.le_refl _) _).alloc (by simp) _
  have e0 : W1.cell? ⟨w.heap.size, 0, none⟩ = some (.slice p l cc) := by rw [hW1]; simp
  have e1 : W1.cell? ⟨w.heap.size, 1, none⟩ = some (.string t) := by rw [hW1]; simp
  have e2 : W1.cell? ⟨w.heap.size, 2, none⟩ = some (.iface 115 (.bool true)) := by rw [hW1]; simp
  have hB : BoxO W1 (w.heap.size + 1) opZ nilS ∧ FrO W1 (w.heap.size + 1) := by
    have q1 := BoxO.new (w.alloc (.cells #[.slice p l cc, .string t, .iface 115 (.bool true)] 93)) opZ nilS
    have q2 := FrO.new (w.alloc (.cells #[.slice p l cc, .string t, .iface 115 (.bool true)] 93)) opZ nilS
    rw [World.size_alloc] at q1 q2
    rw [hW1]
    exact ⟨q1, q2⟩
  go_enter Tryd.func150, Tryd.ntmps150
  go_upto_region 1 with fail
  rw [← hW1]
  clear hW1
  have HB : Hid (BoxO W1.drew (w.heap.size + 1) opZ nilS ∧ FrO W1.drew (w.heap.size + 1)) := ⟨hB.1.drew, hB.2.drew⟩
  have b1 : Below w.heap.size w W1.drew := b0.drew
  have hz1 : w.heap.size ≤ W1.drew.heap.size := b1.size
  have hz2 : w.heap.size + 1 < W1.drew.heap.size := lt_of_cell hB.1.d0
  have cA := HC.out W1.drew b1
  have n1 : w.heap.size ≠ w.heap.size + 1 := by omega
  have hs1 : w.heap.size ≤ w.heap.size + 1 := by omega
  have HU : Hid (∀ W : World, (∀ i, W.cell? ⟨w.heap.size, i, none⟩ = W1.drew.cell? ⟨w.heap.size, i, none⟩) → W.cell? ⟨w.heap.size, 0, none⟩ = some (.slice p l cc) ∧ W.cell? ⟨w.heap.size, 1, none⟩ = some (.string t) ∧ W.cell? ⟨w.heap.size, 2, none⟩ = some (.iface 115 (.bool true))) := fun W h => ⟨(h 0).trans e0, (h 1).trans e1, (h 2).trans e2⟩
  have M0 := HU.out W1.drew (fun _ => rfl)
  have HW : Hid (∀ W, Below W1.drew.heap.size W1.drew W → ∀ i, W.cell? ⟨w.heap.size, i, none⟩ = W1.drew.cell? ⟨w.heap.size, i, none⟩) := fun W h i => World.cell?_of_block (a := ⟨w.heap.size, i, none⟩) (h.block w.heap.size (by omega))
  have HS : Hid (∀ W, Below W1.drew.heap.size W1.drew W → (∀ u0 u1 u2 u3 u4 u5 u6 : Value, ((((((((W.setCell ⟨w.heap.size + 1, 0, none⟩ u0).setCell ⟨w.heap.size + 1, 1, none⟩ u1).setCell ⟨w.heap.size + 1, 2, none⟩ u2).setCell ⟨w.heap.size + 1, 3, none⟩ u3).setCell ⟨w.heap.size + 1, 4, none⟩ u4).setCell ⟨w.heap.size + 1, 5, none⟩ u5).setCell ⟨w.heap.size + 1, 6, none⟩ u6).cell? ⟨w.heap.size, 0, none⟩ = some (.slice p l cc) ∧ (((((((W.setCell ⟨w.heap.size + 1, 0, none⟩ u0).setCell ⟨w.heap.size + 1, 1, none⟩ u1).setCell ⟨w.heap.size + 1, 2, none⟩ u2).setCell ⟨w.heap.size + 1, 3, none⟩ u3).setCell ⟨w.heap.size + 1, 4, none⟩ u4).setCell ⟨w.heap.size + 1, 5, none⟩ u5).setCell ⟨w.heap.size + 1, 6, none⟩ u6).cell? ⟨w.heap.size, 1, none⟩ = some (.string t) ∧ (((((((W.setCell ⟨w.heap.size + 1, 0, none⟩ u0).setCell ⟨w.heap.size + 1, 1, none⟩ u1).setCell ⟨w.heap.size + 1, 2, none⟩ u2).setCell ⟨w.heap.size + 1, 3, none⟩ u3).setCell ⟨w.heap.size + 1, 4, none⟩ u4).setCell ⟨w.heap.size + 1, 5, none⟩ u5).setCell ⟨w.heap.size + 1, 6, none⟩ u6).cell? ⟨w.heap.size, 2, none⟩ = some (.iface 115 (.bool true))) ∧ Below w.heap.size w (((((((W.setCell ⟨w.heap.size + 1, 0, none⟩ u0).setCell ⟨w.heap.size + 1, 1, none⟩ u1).setCell ⟨w.heap.size + 1, 2, none⟩ u2).setCell ⟨w.heap.size + 1, 3, none⟩ u3).setCell ⟨w.heap.size + 1, 4, none⟩ u4).setCell ⟨w.heap.size + 1, 5, none⟩ u5).setCell ⟨w.heap.size + 1, 6, none⟩ u6))) := fun W h u0 u1 u2 u3 u4 u5 u6 => ⟨HU.out _ (fun i => (cell_set7 (B := w.heap.size + 1) (j := i) W n1 u0 u1 u2 u3 u4 u5 u6).trans (HW.out W h i)), below_set7 (B := w.heap.size + 1) (b1.trans (h.mono hz1)) hs1 u0 u1 u2 u3 u4 u5 u6⟩
  clear hB e0 e1 e2 b0
  go_region_held3 (fun w' => (w'.cell? ⟨w.heap.size, 0, none⟩ = some (.slice p l cc) ∧ w'.cell? ⟨w.heap.size, 1, none⟩ = some (.string t) ∧ w'.cell? ⟨w.heap.size, 2, none⟩ = some (.iface 115 (.bool true))) ∧ Below w.heap.size w w')
    (first | exact ⟨by with_reducible first | assumption | exact M0 | exact MS _ _ _ _ _ _ _, by with_reducible first | assumption | exact b1 | exact BS _ _ _ _ _ _ _⟩)
    (first
      | (go_at_call 156; have hx := OA; clear hx; refine (plain_f1 wA).mono ?_; rintro r wP ⟨rfl, hP⟩; have HP' := HA'.trans (hP.mono HA'.size); have bP := b1.trans (HP'.mono hz1); have mP := HU.out wP (HW.out wP HP'); have OF : Hid (OwnA wP W1.drew.heap.size (.slice pA A.length cA') A) := owns_below OA.out hP; obtain ⟨q0, q1, q2, q3, q4, q5, q6⟩ := HB.out.1.below HP'; obtain ⟨h0, h1, h2, h3, h4, h5, h6⟩ := HB.out.2.below HB.out.1 HP'; simp only [z0] at q0 q1 q2 q3 q4 q5 q6; have MS := fun u0 u1 u2 u3 u4 u5 u6 => (HS.out wP HP' u0 u1 u2 u3 u4 u5 u6).1; have BS := fun u0 u1 u2 u3 u4 u5 u6 => (HS.out wP HP' u0 u1 u2 u3 u4 u5 u6).2)
      | (go_at_call 146; refine cA2.mono ?_; rintro r wA ⟨vA, rfl, oA, hA⟩; obtain ⟨pA, cA', rfl⟩ := own_slice oA; have HA' := HP'.trans (hA.mono HP'.size); have bA := b1.trans (HA'.mono hz1); have mA := HU.out wA (HW.out wA HA'); have OA : Hid (OwnA wA W1.drew.heap.size (.slice pA A.length cA') A) := own_weaken oA HP'.size; clear oA; have OF := OA; obtain ⟨q0, q1, q2, q3, q4, q5, q6⟩ := HB.out.1.below HA'; obtain ⟨h0, h1, h2, h3, h4, h5, h6⟩ := HB.out.2.below HB.out.1 HA'; simp only [z0] at q0 q1 q2 q3 q4 q5 q6; have MS := fun u0 u1 u2 u3 u4 u5 u6 => (HS.out wA HA' u0 u1 u2 u3 u4 u5 u6).1; have BS := fun u0 u1 u2 u3 u4 u5 u6 => (HS.out wA HA' u0 u1 u2 u3 u4 u5 u6).2)
      | (go_at_call 146; refine cA.mono ?_; rintro r wA ⟨vA, rfl, oA, hA⟩; obtain ⟨pA, cA', rfl⟩ := own_slice oA; have HA' := hA; have bA := b1.trans (HA'.mono hz1); have mA := HU.out wA (HW.out wA HA'); have OA : Hid (OwnA wA W1.drew.heap.size (.slice pA A.length cA') A) := oA; clear oA)
      | (go_at_call 156; refine (plain_f1 W1.drew).mono ?_; rintro r wP ⟨rfl, hP⟩; have HP' := hP; have bP := b1.trans (HP'.mono hz1); have mP := HU.out wP (HW.out wP HP'); have cA2 := HC.out wP bP))
  · have same : ∀ (u0 u1 u2 u3 u4 u5 u6 : Value) (v : Value) (hv : OwnA wA W1.drew.heap.size v A), OwnA (((((((wA.setCell ⟨w.heap.size + 1, 0, none⟩ u0).setCell ⟨w.heap.size + 1, 1, none⟩ u1).setCell ⟨w.heap.size + 1, 2, none⟩ u2).setCell ⟨w.heap.size + 1, 3, none⟩ u3).setCell ⟨w.heap.size + 1, 4, none⟩ u4).setCell ⟨w.heap.size + 1, 5, none⟩ u5).setCell ⟨w.heap.size + 1, 6, none⟩ u6) w.heap.size v A := fun u0 u1 u2 u3 u4 u5 u6 v hv =>
      own_weaken (owns_same hv fun k hk => by
        have := (owns_block hv k hk).1
        exact heap_set7 _ (by omega) _ _ _ _ _ _ _) hz1
    go_wp2
    exact bodyPost_ret (v := opV ⟨2, t, (1, 1, ⟨#[]⟩), 0, []⟩ (.slice pA A.length cA')) (by simp [results, Tryd.results150, go_sem, q0, q1, q2, q3, q4, q5, q6]) rfl ⟨_, rfl, same _ _ _ _ _ _ _ _ OF.out, BS _ _ _ _ _ _ _⟩

set_option maxHeartbeats 1000000 in
set_option maxRecDepth 100000 in
theorem embOp_num (z : Int) (s : Value) (A : List A2) (t : ByteArray) (w : World) (hR : RN w s A) (hl : A.length ≤ 2097152) :
    Calls Tryd.prog 150 #[.agg #[s, .string t, .iface 116 (.int .i64 z)]] w fun r w' => ∃ v', r = .returned (opV ⟨2, t, (2, z, ⟨#[]⟩), 0, []⟩ v') ∧ OwnA w' w.heap.size v' A ∧ Below w.heap.size w w' := by
  have HC : Hid (∀ W, Below w.heap.size w W → Calls Tryd.prog 146 #[.agg #[s]] W fun r w' => ∃ v', r = .returned v' ∧ OwnA w' W.heap.size v' A ∧ Below W.heap.size W w') := fun W hW => attributes_any s A W (hR.row.below hW) hR.nz hl
  obtain ⟨p, l, cc, rfl⟩ : ∃ p l c, s = .slice p l c := by obtain ⟨p, c, h, _⟩ := hR.row.val; exact ⟨_, _, _, h⟩
  clear hR hl
  obtain ⟨W1, hW1⟩ : ∃ W, W = (w.alloc (.cells #[.slice p l cc, .string t, .iface 116 (.int .i64 z)] 93)).alloc (.cells #[.int .i64 0, .string ⟨#[]⟩, .int .i64 0, .int .i64 0, .string ⟨#[]⟩, .int .i64 0, .slice none 0 0] 63) := ⟨_, rfl⟩
  have b0 : Below w.heap.size w W1 := by rw [hW1]; exact ((Below.refl _ _).alloc (Nat.le_refl _) _).alloc (by simp) _
  have e0 : W1.cell? ⟨w.heap.size, 0, none⟩ = some (.slice p l cc) := by rw [hW1]; simp
  have e1 : W1.cell? ⟨w.heap.size, 1, none⟩ = some (.string t) := by rw [hW1]; simp
  have e2 : W1.cell? ⟨w.heap.size, 2, none⟩ = some (.iface 116 (.int .i64 z)) := by rw [hW1]; simp
  have hB : BoxO W1 (w.heap.size + 1) opZ nilS ∧ FrO W1 (w.heap.size + 1) := by
    have q1 := BoxO.new (w.alloc (.cells #[.slice p l cc, .string t, .iface 116 (.int .i64 z)] 93)) opZ nilS
    have q2 := FrO.new (w.alloc (.cells #[.slice p l cc, .string t, .iface 116 (.int .i64 z)] 93)) opZ nilS
    rw [World.size_alloc] at q1 q2
    rw [hW1]
    exact ⟨q1, q2⟩
  go_enter Tryd.func150, Tryd.ntmps150
  go_upto_region 1 with fail
  rw [← hW1]
  clear hW1
  have HB : Hid (BoxO W1.drew (w.heap.size + 1) opZ nilS ∧ FrO W1.drew (w.heap.size + 1)) := ⟨hB.1.drew, hB.2.drew⟩
  have b1 : Below w.heap.size w W1.drew := b0.drew
  have hz1 : w.heap.size ≤ W1.drew.heap.size := b1.size
  have hz2 : w.heap.size + 1 < W1.drew.heap.size := lt_of_cell hB.1.d0
  have cA := HC.out W1.drew b1
  have n1 : w.heap.size ≠ w.heap.size + 1 := by omega
  have hs1 : w.heap.size ≤ w.heap.size + 1 := by omega
  have HU : Hid (∀ W : World, (∀ i, W.cell? ⟨w.heap.size, i, none⟩ = W1.drew.cell? ⟨w.heap.size, i, none⟩) → W.cell? ⟨w.heap.size, 0, none⟩ = some (.slice p l cc) ∧ W.cell? ⟨w.heap.size, 1, none⟩ = some (.string t) ∧ W.cell? ⟨w.heap.size, 2, none⟩ = some (.iface 116 (.int .i64 z))) := fun W h => ⟨(h 0).trans e0, (h 1).trans e1, (h 2).trans e2⟩
  have M0 := HU.out W1.drew (fun _ => rfl)
  have HW : Hid (∀ W, Below W1.drew.heap.size W1.drew W → ∀ i, W.cell? ⟨w.heap.size, i, none⟩ = W1.drew.cell? ⟨w.heap.size, i, none⟩) := fun W h i => World.cell?_of_block (a := ⟨w.heap.size, i, none⟩) (h.block w.heap.size (by omega))
  have HS : Hid (∀ W, Below W1.drew.heap.size W1.drew W → (∀ u0 u1 u2 u3 u4 u5 u6 : Value, ((((((((W.setCell ⟨w.heap.size + 1, 0, none⟩ u0).setCell ⟨w.heap.size + 1, 1, none⟩ u1).setCell ⟨w.heap.size + 1, 2, none⟩ u2).setCell ⟨w.heap.size + 1, 3, none⟩ u3).setCell ⟨w.heap.size + 1, 4, none⟩ u4).setCell ⟨w.heap.size + 1, 5, none⟩ u5).setCell ⟨w.heap.size + 1, 6, none⟩ u6).cell? ⟨w.heap.size, 0, none⟩ = some (.slice p l cc) ∧ (((((((W.setCell ⟨w.heap.size + 1, 0, none⟩ u0).setCell ⟨w.heap.size + 1, 1, none⟩ u1).setCell ⟨w.heap.size + 1, 2, none⟩ u2).setCell ⟨w.heap.size + 1, 3, none⟩ u3).setCell ⟨w.heap.size + 1, 4, none⟩ u4).setCell ⟨w.heap.size + 1, 5, none⟩ u5).setCell ⟨w.heap.size + 1, 6, none⟩ u6).cell? ⟨w.heap.size, 1, none⟩ = some (.string t) ∧ (((((((W.setCell ⟨w.heap.size + 1, 0, none⟩ u0).setCell ⟨w.heap.size + 1, 1, none⟩ u1).setCell ⟨w.heap.size + 1, 2, none⟩ u2).setCell ⟨w.heap.size + 1, 3, none⟩ u3).setCell ⟨w.heap.size + 1, 4, none⟩ u4).setCell ⟨w.heap.size + 1, 5, none⟩ u5).setCell ⟨w.heap.size + 1, 6, none⟩ u6).cell? ⟨w.heap.size, 2, none⟩ = some (.iface 116 (.int .i64 z))) ∧ Below w.heap.size w (((((((W.setCell ⟨w.heap.size + 1, 0, none⟩ u0).setCell ⟨w.heap.size + 1, 1, none⟩ u1).setCell ⟨w.heap.size + 1, 2, none⟩ u2).setCell ⟨w.heap.size + 1, 3, none⟩ u3).setCell ⟨w.heap.size + 1, 4, none⟩ u4).setCell ⟨w.heap.size + 1, 5, none⟩ u5).setCell ⟨w.heap.size + 1, 6, none⟩ u6))) := fun W h u0 u1 u2 u3 u4 u5 u6 => ⟨HU.out _ (fun i => (cell_set7 (B := w.heap.size + 1) (j := i) W n1 u0 u1 u2 u3 u4 u5 u6).trans (HW.out W h i)), below_set7 (B := w.heap.size + 1) (b1.trans (h.mono hz1)) hs1 u0 u1 u2 u3 u4 u5 u6⟩
  clear hB e0 e1 e2 b0
  go_region_held3 (fun w' => (w'.cell? ⟨w.heap.size, 0, none⟩ = some (.slice p l cc) ∧ w'.cell? ⟨w.heap.size, 1, none⟩ = some (.string t) ∧ w'.cell? ⟨w.heap.size, 2, none⟩ = some (.iface 116 (.int .i64 z))) ∧ Below w.heap.size w w')
    (first | exact ⟨by with_reducible first | assumption | exact M0 | exact MS _ _ _ _ _ _ _, by with_reducible first | assumption | exact b1 | exact BS _ _ _ _ _ _ _⟩)
    (first
      | (go_at_call 158; have hx := OA; clear hx; refine (plain_d z wA).mono ?_; rintro r wP ⟨rfl, hP⟩; have HP' := HA'.trans (hP.mono HA'.size); have bP := b1.trans (HP'.mono hz1); have mP := HU.out wP (HW.out wP HP'); have OF : Hid (OwnA wP W1.drew.heap.size (.slice pA A.length cA') A) := owns_below OA.out hP; obtain ⟨q0, q1, q2, q3, q4, q5, q6⟩ := HB.out.1.below HP'; obtain ⟨h0, h1, h2, h3, h4, h5, h6⟩ := HB.out.2.below HB.out.1 HP'; simp only [z0] at q0 q1 q2 q3 q4 q5 q6; have MS := fun u0 u1 u2 u3 u4 u5 u6 => (HS.out wP HP' u0 u1 u2 u3 u4 u5 u6).1; have BS := fun u0 u1 u2 u3 u4 u5 u6 => (HS.out wP HP' u0 u1 u2 u3 u4 u5 u6).2)
      | (go_at_call 146; refine cA2.mono ?_; rintro r wA ⟨vA, rfl, oA, hA⟩; obtain ⟨pA, cA', rfl⟩ := own_slice oA; have HA' := HP'.trans (hA.mono HP'.size); have bA := b1.trans (HA'.mono hz1); have mA := HU.out wA (HW.out wA HA'); have OA : Hid (OwnA wA W1.drew.heap.size (.slice pA A.length cA') A) := own_weaken oA HP'.size; clear oA; have OF := OA; obtain ⟨q0, q1, q2, q3, q4, q5, q6⟩ := HB.out.1.below HA'; obtain ⟨h0, h1, h2, h3, h4, h5, h6⟩ := HB.out.2.below HB.out.1 HA'; simp only [z0] at q0 q1 q2 q3 q4 q5 q6; have MS := fun u0 u1 u2 u3 u4 u5 u6 => (HS.out wA HA' u0 u1 u2 u3 u4 u5 u6).1; have BS := fun u0 u1 u2 u3 u4 u5 u6 => (HS.out wA HA' u0 u1 u2 u3 u4 u5 u6).2)
      | (go_at_call 146; refine cA.mono ?_; rintro r wA ⟨vA, rfl, oA, hA⟩; obtain ⟨pA, cA', rfl⟩ := own_slice oA; have HA' := hA; have bA := b1.trans (HA'.mono hz1); have mA := HU.out wA (HW.out wA HA'); have OA : Hid (OwnA wA W1.drew.heap.size (.slice pA A.length cA') A) := oA; clear oA)
      | (go_at_call 158; refine (plain_d z W1.drew).mono ?_; rintro r wP ⟨rfl, hP⟩; have HP' := hP; have bP := b1.trans (HP'.mono hz1); have mP := HU.out wP (HW.out wP HP'); have cA2 := HC.out wP bP))
  · have same : ∀ (u0 u1 u2 u3 u4 u5 u6 : Value) (v : Value) (hv : OwnA wA W1.drew.heap.size v A), OwnA (((((((wA.setCell ⟨w.heap.size + 1, 0, none⟩ u0).setCell ⟨w.heap.size + 1, 1, none⟩ u1).setCell ⟨w.heap.size + 1, 2, none⟩ u2).setCell ⟨w.heap.size + 1, 3, none⟩ u3).setCell ⟨w.heap.size + 1, 4, none⟩ u4).setCell ⟨w.heap.size + 1, 5, none⟩ u5).setCell ⟨w.heap.size + 1, 6, none⟩ u6) w.heap.size v A := fun u0 u1 u2 u3 u4 u5 u6 v hv =>
      own_weaken (owns_same hv fun k hk => by
        have := (owns_block hv k hk).1
        exact heap_set7 _ (by omega) _ _ _ _ _ _ _) hz1
    go_wp2
    exact bodyPost_ret (v := opV ⟨2, t, (2, z, ⟨#[]⟩), 0, []⟩ (.slice pA A.length cA')) (by simp [results, Tryd.results150, go_sem, q0, q1, q2, q3, q4, q5, q6]) rfl ⟨_, rfl, same _ _ _ _ _ _ _ _ OF.out, BS _ _ _ _ _ _ _⟩

set_option maxHeartbeats 1000000 in
set_option maxRecDepth 100000 in
theorem embOp_text (y : ByteArray) (s : Value) (A : List A2) (t : ByteArray) (w : World) (hR : RN w s A) (hl : A.length ≤ 2097152) :
    Calls Tryd.prog 150 #[.agg #[s, .string t, .iface 117 (.string y)]] w fun r w' => ∃ v', r = .returned (opV ⟨2, t, (3, 0, y), 0, []⟩ v') ∧ OwnA w' w.heap.size v' A ∧ Below w.heap.size w w' := by
  have HC : Hid (∀ W, Below w.heap.size w W → Calls Tryd.prog 146 #[.agg #[s]] W fun r w' => ∃ v', r = .returned v' ∧ OwnA w' W.heap.size v' A ∧ Below W.heap.size W w') := fun W hW => attributes_any s A W (hR.row.below hW) hR.nz hl
  obtain ⟨p, l, cc, rfl⟩ : ∃ p l c, s = .slice p l c := by obtain ⟨p, c, h, _⟩ := hR.row.val; exact ⟨_, _, _, h⟩
  clear hR hl
  obtain ⟨W1, hW1⟩ : ∃ W, W = (w.alloc (.cells #[.slice p l cc, .string t, .iface 117 (.string y)] 93)).alloc (.cells #[.int .i64 0, .string ⟨#[]⟩, .int .i64 0, .int .i64 0, .string ⟨#[]⟩, .int .i64 0, .slice none 0 0] 63) := ⟨_, rfl⟩
  have b0 : Below w.heap.size w W1 := by rw [hW1]; exact ((Below.refl _ _).alloc (Nat.le_refl _) _).alloc (by simp) _
  have e0 : W1.cell? ⟨w.heap.size, 0, none⟩ = some (.slice p l cc) := by rw [hW1]; simp
  have e1 : W1.cell? ⟨w.heap.size, 1, none⟩ = some (.string t) := by rw [hW1]; simp
  have e2 : W1.cell? ⟨w.heap.size, 2, none⟩ = some (.iface 117 (.string y)) := by rw [hW1]; simp
  have hB : BoxO W1 (w.heap.size + 1) opZ nilS ∧ FrO W1 (w.heap.size + 1) := by
    have q1 := BoxO.new (w.alloc (.cells #[.slice p l cc, .string t, .iface 117 (.string y)] 93)) opZ nilS
    have q2 := FrO.new (w.alloc (.cells #[.slice p l cc, .string t, .iface 117 (.string y)] 93)) opZ nilS
    rw [World.size_alloc] at q1 q2
    rw [hW1]
    exact ⟨q1, q2⟩
  go_enter Tryd.func150, Tryd.ntmps150
  go_upto_region 1 with fail
  rw [← hW1]
  clear hW1
  have HB : Hid (BoxO W1.drew (w.heap.size + 1) opZ nilS ∧ FrO W1.drew (w.heap.size + 1)) := ⟨hB.1.drew, hB.2.drew⟩
  have b1 : Below w.heap.size w W1.drew := b0.drew
  have hz1 : w.heap.size ≤ W1.drew.heap.size := b1.size
  have hz2 : w.heap.size + 1 < W1.drew.heap.size := lt_of_cell hB.1.d0
  have cA := HC.out W1.drew b1
  have n1 : w.heap.size ≠ w.heap.size + 1 := by omega
  have hs1 : w.heap.size ≤ w.heap.size + 1 := by omega
  have HU : Hid (∀ W : World, (∀ i, W.cell? ⟨w.heap.size, i, none⟩ = W1.drew.cell? ⟨w.heap.size, i, none⟩) → W.cell? ⟨w.heap.size, 0, none⟩ = some (.slice p l cc) ∧ W.cell? ⟨w.heap.size, 1, none⟩ = some (.string t) ∧ W.cell? ⟨w.heap.size, 2, none⟩ = some (.iface 117 (.string y))) := fun W h => ⟨(h 0).trans e0, (h 1).trans e1, (h 2).trans e2⟩
  have M0 := HU.out W1.drew (fun _ => rfl)
  have HW : Hid (∀ W, Below W1.drew.heap.size W1.drew W → ∀ i, W.cell? ⟨w.heap.size, i, none⟩ = W1.drew.cell? ⟨w.heap.size, i, none⟩) := fun W h i => World.cell?_of_block (a := ⟨w.heap.size, i, none⟩) (h.block w.heap.size (by omega))
  have HS : Hid (∀ W, Below W1.drew.heap.size W1.drew W → (∀ u0 u1 u2 u3 u4 u5 u6 : Value, ((((((((W.setCell ⟨w.heap.size + 1, 0, none⟩ u0).setCell ⟨w.heap.size + 1, 1, none⟩ u1).setCell ⟨w.heap.size + 1, 2, none⟩ u2).setCell ⟨w.heap.size + 1, 3, none⟩ u3).setCell ⟨w.heap.size + 1, 4, none⟩ u4).setCell ⟨w.heap.size + 1, 5, none⟩ u5).setCell ⟨w.heap.size + 1, 6, none⟩ u6).cell? ⟨w.heap.size, 0, none⟩ = some (.slice p l cc) ∧ (((((((W.setCell ⟨w.heap.size + 1, 0, none⟩ u0).setCell ⟨w.heap.size + 1, 1, none⟩ u1).setCell ⟨w.heap.size + 1, 2, none⟩ u2).setCell ⟨w.heap.size + 1, 3, none⟩ u3).setCell ⟨w.heap.size + 1, 4, none⟩ u4).setCell ⟨w.heap.size + 1, 5, none⟩ u5).setCell ⟨w.heap.size + 1, 6, none⟩ u6).cell? ⟨w.heap.size, 1, none⟩ = some (.string t) ∧ (((((((W.setCell ⟨w.heap.size + 1, 0, none⟩ u0).setCell ⟨w.heap.size + 1, 1, none⟩ u1).setCell ⟨w.heap.size + 1, 2, none⟩ u2).setCell ⟨w.heap.size + 1, 3, none⟩ u3).setCell ⟨w.heap.size + 1, 4, none⟩ u4).setCell ⟨w.heap.size + 1, 5, none⟩ u5).setCell ⟨w.heap.size + 1, 6, none⟩ u6).cell? ⟨w.heap.size, 2, none⟩ = some (.iface 117 (.string y))) ∧ Below w.heap.size w (((((((W.setCell ⟨w.heap.size + 1, 0, none⟩ u0).setCell ⟨w.heap.size + 1, 1, none⟩ u1).setCell ⟨w.heap.size + 1, 2, none⟩ u2).setCell ⟨w.heap.size + 1, 3, none⟩ u3).setCell ⟨w.heap.size + 1, 4, none⟩ u4).setCell ⟨w.heap.size + 1, 5, none⟩ u5).setCell ⟨w.heap.size + 1, 6, none⟩ u6))) := fun W h u0 u1 u2 u3 u4 u5 u6 => ⟨HU.out _ (fun i => (cell_set7 (B := w.heap.size + 1) (j := i) W n1 u0 u1 u2 u3 u4 u5 u6).trans (HW.out W h i)), below_set7 (B := w.heap.size + 1) (b1.trans (h.mono hz1)) hs1 u0 u1 u2 u3 u4 u5 u6⟩
  clear hB e0 e1 e2 b0
  go_region_held3 (fun w' => (w'.cell? ⟨w.heap.size, 0, none⟩ = some (.slice p l cc) ∧ w'.cell? ⟨w.heap.size, 1, none⟩ = some (.string t) ∧ w'.cell? ⟨w.heap.size, 2, none⟩ = some (.iface 117 (.string y))) ∧ Below w.heap.size w w')
    (first | exact ⟨by with_reducible first | assumption | exact M0 | exact MS _ _ _ _ _ _ _, by with_reducible first | assumption | exact b1 | exact BS _ _ _ _ _ _ _⟩)
    (first
      | (go_at_call 160; have hx := OA; clear hx; refine (plain_t y wA).mono ?_; rintro r wP ⟨rfl, hP⟩; have HP' := HA'.trans (hP.mono HA'.size); have bP := b1.trans (HP'.mono hz1); have mP := HU.out wP (HW.out wP HP'); have OF : Hid (OwnA wP W1.drew.heap.size (.slice pA A.length cA') A) := owns_below OA.out hP; obtain ⟨q0, q1, q2, q3, q4, q5, q6⟩ := HB.out.1.below HP'; obtain ⟨h0, h1, h2, h3, h4, h5, h6⟩ := HB.out.2.below HB.out.1 HP'; simp only [z0] at q0 q1 q2 q3 q4 q5 q6; have MS := fun u0 u1 u2 u3 u4 u5 u6 => (HS.out wP HP' u0 u1 u2 u3 u4 u5 u6).1; have BS := fun u0 u1 u2 u3 u4 u5 u6 => (HS.out wP HP' u0 u1 u2 u3 u4 u5 u6).2)
      | (go_at_call 146; refine cA2.mono ?_; rintro r wA ⟨vA, rfl, oA, hA⟩; obtain ⟨pA, cA', rfl⟩ := own_slice oA; have HA' := HP'.trans (hA.mono HP'.size); have bA := b1.trans (HA'.mono hz1); have mA := HU.out wA (HW.out wA HA'); have OA : Hid (OwnA wA W1.drew.heap.size (.slice pA A.length cA') A) := own_weaken oA HP'.size; clear oA; have OF := OA; obtain ⟨q0, q1, q2, q3, q4, q5, q6⟩ := HB.out.1.below HA'; obtain ⟨h0, h1, h2, h3, h4, h5, h6⟩ := HB.out.2.below HB.out.1 HA'; simp only [z0] at q0 q1 q2 q3 q4 q5 q6; have MS := fun u0 u1 u2 u3 u4 u5 u6 => (HS.out wA HA' u0 u1 u2 u3 u4 u5 u6).1; have BS := fun u0 u1 u2 u3 u4 u5 u6 => (HS.out wA HA' u0 u1 u2 u3 u4 u5 u6).2)
      | (go_at_call 146; refine cA.mono ?_; rintro r wA ⟨vA, rfl, oA, hA⟩; obtain ⟨pA, cA', rfl⟩ := own_slice oA; have HA' := hA; have bA := b1.trans (HA'.mono hz1); have mA := HU.out wA (HW.out wA HA'); have OA : Hid (OwnA wA W1.drew.heap.size (.slice pA A.length cA') A) := oA; clear oA)
      | (go_at_call 160; refine (plain_t y W1.drew).mono ?_; rintro r wP ⟨rfl, hP⟩; have HP' := hP; have bP := b1.trans (HP'.mono hz1); have mP := HU.out wP (HW.out wP HP'); have cA2 := HC.out wP bP))
  · have same : ∀ (u0 u1 u2 u3 u4 u5 u6 : Value) (v : Value) (hv : OwnA wA W1.drew.heap.size v A), OwnA (((((((wA.setCell ⟨w.heap.size + 1, 0, none⟩ u0).setCell ⟨w.heap.size + 1, 1, none⟩ u1).setCell ⟨w.heap.size + 1, 2, none⟩ u2).setCell ⟨w.heap.size + 1, 3, none⟩ u3).setCell ⟨w.heap.size + 1, 4, none⟩ u4).setCell ⟨w.heap.size + 1, 5, none⟩ u5).setCell ⟨w.heap.size + 1, 6, none⟩ u6) w.heap.size v A := fun u0 u1 u2 u3 u4 u5 u6 v hv =>
      own_weaken (owns_same hv fun k hk => by
        have := (owns_block hv k hk).1
        exact heap_set7 _ (by omega) _ _ _ _ _ _ _) hz1
    go_wp2
    exact bodyPost_ret (v := opV ⟨2, t, (3, 0, y), 0, []⟩ (.slice pA A.length cA')) (by simp [results, Tryd.results150, go_sem, q0, q1, q2, q3, q4, q5, q6]) rfl ⟨_, rfl, same _ _ _ _ _ _ _ _ OF.out, BS _ _ _ _ _ _ _⟩
end Go.Proofs.YtkgflmbhkbeakaaDoor

/- What the methods Op of pieces answer. -/
namespace Go.Proofs.YtkgflmbhkbeakaaDoor
open Go Go.RowKit Go.Lib
set_option linter.unusedVariables false

set_option maxHeartbeats 1000000 in
set_option maxRecDepth 100000 in
theorem retOp (s : Value) (A : List A2) (n : Int) (w : World) (hR : RN w s A) (hl : A.length ≤ 2097152) :
    Calls Tryd.prog 152 #[.agg #[s, .int .i64 n]] w fun r w' => ∃ v', r = .returned (opV ⟨3, ⟨#[]⟩, z0, n, []⟩ v') ∧ OwnA w' w.heap.size v' A ∧ Below w.heap.size w w' := by
  have HC : Hid (∀ W, Below w.heap.size w W → Calls Tryd.prog 146 #[.agg #[s]] W fun r w' => ∃ v', r = .returned v' ∧ OwnA w' W.heap.size v' A ∧ Below W.heap.size W w') := fun W hW => attributes_any s A W (hR.row.below hW) hR.nz hl
  obtain ⟨p, l, cc, rfl⟩ : ∃ p l c, s = .slice p l c := by obtain ⟨p, c, h, _⟩ := hR.row.val; exact ⟨_, _, _, h⟩
  clear hR hl
  obtain ⟨W1, hW1⟩ : ∃ W, W = (w.alloc (.cells #[.slice p l cc, .int .i64 n] 96)).alloc (.cells #[.int .i64 0, .string ⟨#[]⟩, .int .i64 0, .int .i64 0, .string ⟨#[]⟩, .int .i64 0, .slice none 0 0] 63) := ⟨_, rfl⟩
  have b0 : Below w.heap.size w W1 := by rw [hW1]; exact ((Below.refl _ _).alloc (Nat.le_refl _) _).alloc (by simp) _
  have e0 : W1.cell? ⟨w.heap.size, 0, none⟩ = some (.slice p l cc) := by rw [hW1]; simp
  have e1 : W1.cell? ⟨w.heap.size, 1, none⟩ = some (.int .i64 n) := by rw [hW1]; simp
  have hB : BoxO W1 (w.heap.size + 1) opZ nilS ∧ FrO W1 (w.heap.size + 1) := by
    have q1 := BoxO.new (w.alloc (.cells #[.slice p l cc, .int .i64 n] 96)) opZ nilS
    have q2 := FrO.new (w.alloc (.cells #[.slice p l cc, .int .i64 n] 96)) opZ nilS
    rw [World.size_alloc] at q1 q2
    rw [hW1]
    exact ⟨q1, q2⟩
  go_enter Tryd.func152, Tryd.ntmps152
  go_upto_region 1 with fail
  rw [← hW1]
  clear hW1
  have HB : Hid (BoxO W1.drew (w.heap.size + 1) opZ nilS ∧ FrO W1.drew (w.heap.size + 1)) := ⟨hB.1.drew, hB.2.drew⟩
  have b1 : Below w.heap.size w W1.drew := b0.drew
  have hz1 : w.heap.size ≤ W1.drew.heap.size := b1.size
  have hz2 : w.heap.size + 1 < W1.drew.heap.size := lt_of_cell hB.1.d0
  have cA := HC.out W1.drew b1
  have n1 : w.heap.size ≠ w.heap.size + 1 := by omega
  have hs1 : w.heap.size ≤ w.heap.size + 1 := by omega
  have HU : Hid (∀ W : World, (∀ i, W.cell? ⟨w.heap.size, i, none⟩ = W1.drew.cell? ⟨w.heap.size, i, none⟩) → W.cell? ⟨w.heap.size, 0, none⟩ = some (.slice p l cc) ∧ W.cell? ⟨w.heap.size, 1, none⟩ = some (.int .i64 n)) := fun W h => ⟨(h 0).trans e0, (h 1).trans e1⟩
  have M0 := HU.out W1.drew (fun _ => rfl)
  have HW : Hid (∀ W, Below W1.drew.heap.size W1.drew W → ∀ i, W.cell? ⟨w.heap.size, i, none⟩ = W1.drew.cell? ⟨w.heap.size, i, none⟩) := fun W h i => World.cell?_of_block (a := ⟨w.heap.size, i, none⟩) (h.block w.heap.size (by omega))
  have HS : Hid (∀ W, Below W1.drew.heap.size W1.drew W → (∀ u0 u1 u2 u3 u4 u5 u6 : Value, ((((((((W.setCell ⟨w.heap.size + 1, 0, none⟩ u0).setCell ⟨w.heap.size + 1, 1, none⟩ u1).setCell ⟨w.heap.size + 1, 2, none⟩ u2).setCell ⟨w.heap.size + 1, 3, none⟩ u3).setCell ⟨w.heap.size + 1, 4, none⟩ u4).setCell ⟨w.heap.size + 1, 5, none⟩ u5).setCell ⟨w.heap.size + 1, 6, none⟩ u6).cell? ⟨w.heap.size, 0, none⟩ = some (.slice p l cc) ∧ (((((((W.setCell ⟨w.heap.size + 1, 0, none⟩ u0).setCell ⟨w.heap.size + 1, 1, none⟩ u1).setCell ⟨w.heap.size + 1, 2, none⟩ u2).setCell ⟨w.heap.size + 1, 3, none⟩ u3).setCell ⟨w.heap.size + 1, 4, none⟩ u4).setCell ⟨w.heap.size + 1, 5, none⟩ u5).setCell ⟨w.heap.size + 1, 6, none⟩ u6).cell? ⟨w.heap.size, 1, none⟩ = some (.int .i64 n)) ∧ Below w.heap.size w (((((((W.setCell ⟨w.heap.size + 1, 0, none⟩ u0).setCell ⟨w.heap.size + 1, 1, none⟩ u1).setCell ⟨w.heap.size + 1, 2, none⟩ u2).setCell ⟨w.heap.size + 1, 3, none⟩ u3).setCell ⟨w.heap.size + 1, 4, none⟩ u4).setCell ⟨w.heap.size + 1, 5, none⟩ u5).setCell ⟨w.heap.size + 1, 6, none⟩ u6))) := fun W h u0 u1 u2 u3 u4 u5 u6 => ⟨HU.out _ (fun i => (cell_set7 (B := w.heap.size + 1) (j := i) W n1 u0 u1 u2 u3 u4 u5 u6).trans (HW.out W h i)), below_set7 (B := w.heap.size + 1) (b1.trans (h.mono hz1)) hs1 u0 u1 u2 u3 u4 u5 u6⟩
  clear hB e0 e1 b0
  go_region_held3 (fun w' => (w'.cell? ⟨w.heap.size, 0, none⟩ = some (.slice p l cc) ∧ w'.cell? ⟨w.heap.size, 1, none⟩ = some (.int .i64 n)) ∧ Below w.heap.size w w')
    (first | exact ⟨by with_reducible first | assumption | exact M0 | exact MS _ _ _ _ _ _ _, by with_reducible first | assumption | exact b1 | exact BS _ _ _ _ _ _ _⟩)
    (first
      | (go_at_call 146; refine cA.mono ?_; rintro r wA ⟨vA, rfl, oA, hA⟩; obtain ⟨pA, cA', rfl⟩ := own_slice oA; have HA' := hA; have bA := b1.trans (HA'.mono hz1); have mA := HU.out wA (HW.out wA HA'); have OA : Hid (OwnA wA W1.drew.heap.size (.slice pA A.length cA') A) := oA; clear oA; obtain ⟨q0, q1, q2, q3, q4, q5, q6⟩ := HB.out.1.below HA'; obtain ⟨h0, h1, h2, h3, h4, h5, h6⟩ := HB.out.2.below HB.out.1 HA'; simp only [z0] at q0 q1 q2 q3 q4 q5 q6; have MS := fun u0 u1 u2 u3 u4 u5 u6 => (HS.out wA HA' u0 u1 u2 u3 u4 u5 u6).1; have BS := fun u0 u1 u2 u3 u4 u5 u6 => (HS.out wA HA' u0 u1 u2 u3 u4 u5 u6).2))
  · have same : ∀ (u0 u1 u2 u3 u4 u5 u6 : Value) (v : Value) (hv : OwnA wA W1.drew.heap.size v A), OwnA (((((((wA.setCell ⟨w.heap.size + 1, 0, none⟩ u0).setCell ⟨w.heap.size + 1, 1, none⟩ u1).setCell ⟨w.heap.size + 1, 2, none⟩ u2).setCell ⟨w.heap.size + 1, 3, none⟩ u3).setCell ⟨w.heap.size + 1, 4, none⟩ u4).setCell ⟨w.heap.size + 1, 5, none⟩ u5).setCell ⟨w.heap.size + 1, 6, none⟩ u6) w.heap.size v A := fun u0 u1 u2 u3 u4 u5 u6 v hv =>
      own_weaken (owns_same hv fun k hk => by
        have := (owns_block hv k hk).1
        exact heap_set7 _ (by omega) _ _ _ _ _ _ _) hz1
    go_wp2
    exact bodyPost_ret (v := opV ⟨3, ⟨#[]⟩, z0, n, []⟩ (.slice pA A.length cA')) (by simp [results, Tryd.results152, go_sem, z0, q0, q1, q2, q3, q4, q5, q6]) rfl ⟨_, rfl, same _ _ _ _ _ _ _ _ OA.out, BS _ _ _ _ _ _ _⟩

set_option maxHeartbeats 1000000 in
theorem delOp (n : Int) (w : World) :
    Calls Tryd.prog 154 #[.agg #[.int .i64 n]] w fun r w' => r = .returned (opV ⟨4, ⟨#[]⟩, z0, n, []⟩ (.slice none 0 0)) ∧ Below w.heap.size w w' := by
  go_enter Tryd.func154, Tryd.ntmps154
  go_wp2
  exact bodyPost_ret (v := opV ⟨4, ⟨#[]⟩, z0, n, []⟩ (.slice none 0 0)) (by simp [results, Tryd.results154, go_sem, z0]) rfl ⟨rfl, by go_grown⟩
theorem embOp_any (s : Value) (A : List A2) (t : ByteArray) (v : P3) (w : World) (hv : chkP v = 0) (hR : RN w s A) (hl : A.length ≤ 2097152) :
    Calls Tryd.prog 150 #[.agg #[s, .string t, valP v]] w fun r w' => ∃ v', r = .returned (opV ⟨2, t, v, 0, []⟩ v') ∧ OwnA w' w.heap.size v' A ∧ Below w.heap.size w w' := by
  obtain ⟨x, z, u⟩ := v
  rcases good_cases hv with ⟨rfl, rfl, rfl⟩ | ⟨rfl, rfl, rfl⟩ | ⟨rfl, rfl, rfl⟩ | ⟨rfl, rfl⟩ | ⟨rfl, rfl, _⟩
  · exact embOp_null s A t w hR hl
  · exact embOp_flag0 s A t w hR hl
  · exact embOp_flag1 s A t w hR hl
  · exact embOp_num z s A t w hR hl
  · exact embOp_text u s A t w hR hl
end Go.Proofs.YtkgflmbhkbeakaaDoor

/- ops.Bearers: the pieces that bear attributes, with their numbers. -/
namespace Go.Proofs.YtkgflmbhkbeakaaDoor
open Go Go.RowKit Go.Lib
set_option linter.unusedVariables false

/-- The operations whose pieces bear attributes, with their numbers. -/
def bearI : Nat → List Op5 → List (Nat × Op5)
  | _, [] => []
  | i, o :: r => if o.k = 4 then bearI (i + 1) r else (i, o) :: bearI (i + 1) r
theorem bearI_append : ∀ (a b : List Op5) (i : Nat), bearI i (a ++ b) = bearI i a ++ bearI (i + a.length) b
  | [], b, i => by simp [bearI]
  | o :: r, b, i => by
    have := bearI_append r b (i + 1)
    rw [List.cons_append, bearI, bearI, this, List.length_cons, show i + (r.length + 1) = i + 1 + r.length by omega]
    split <;> rfl
theorem bearI_snoc {E : List Op5} {k : Nat} {e : Op5} (h : E[k]? = some e) : bearI 0 (E.take (k + 1)) = bearI 0 (E.take k) ++ (if e.k = 4 then [] else [(k, e)]) := by
  have hl : k < E.length := (List.getElem?_eq_some_iff.1 h).1
  rw [List.take_add_one, h, Option.toList_some, bearI_append, List.length_take, Nat.min_eq_left (by omega), Nat.zero_add]
  rfl
theorem bearI_len : ∀ (E : List Op5) (i : Nat), (bearI i E).length ≤ E.length
  | [], i => Nat.le_refl _
  | o :: r, i => by
    have := bearI_len r (i + 1)
    rw [bearI]
    split
    · simp only [List.length_cons]; omega
    · simp only [List.length_cons]; omega
theorem bearI_at {E : List Op5} {k : Nat} {e : Op5} (h : E[k]? = some e) (hk : e.k ≠ 4) : (bearI 0 E)[(bearI 0 (E.take k)).length]? = some (k, e) := by
  have h1 := bearI_snoc h
  rw [if_neg hk] at h1
  have h2 : bearI 0 E = bearI 0 (E.take (k + 1)) ++ bearI (0 + (E.take (k + 1)).length) (E.drop (k + 1)) := by
    rw [← bearI_append, List.take_append_drop]
  rw [h2, h1, List.append_assoc, List.getElem?_append_right (Nat.le_refl _), Nat.sub_self]
  rfl

/-- All blocks of one type of elements are as they were. -/
def KeepT (e : TypeId) (w w' : World) : Prop := ∀ (k : Nat) (cur : Array Value), w.heap[k]? = some (.cells cur e (0, 0)) → w'.heap[k]? = w.heap[k]?
theorem keepT_grown {e e' : TypeId} {w w' : World} {B sz n : Nat} {v : Value} {xs : List Value} (h : w.ownsRow B e' sz v n xs) (g : w.grownBy w' v.ownBlock) (hne : e' ≠ e) : KeepT e w w' := fun k cur hk => by
  refine g.block k (Array.getElem?_eq_some_iff.1 hk).1 fun q => ?_
  rcases h.2 with ⟨rfl, _⟩ | ⟨b, cap, cur', rfl, _, h3, _⟩
  · cases q
  · simp only [Value.ownBlock, Option.some.injEq] at q
    subst q
    rw [h3] at hk
    simp only [Option.some.injEq, Obj.cells.injEq] at hk
    exact absurd hk.2.1 hne
theorem keepT_own {e : TypeId} {w w' : World} {B sz n : Nat} {v : Value} {xs : List Value} (h : w.ownsRow B e sz v n xs) (hk : KeepT e w w') : w'.ownsRow B e sz v n xs := owns_same h fun k hb => by
  obtain ⟨_, cur, hc⟩ := owns_block h k hb
  exact hk k cur hc
abbrev OwnB (w : World) (B : Nat) (v : Value) (P : List Value) : Prop := w.ownsRow B 86 1 v P.length P
abbrev OwnZ (w : World) (B : Nat) (v : Value) (P : List Value) : Prop := w.ownsRow B 3 1 v P.length P
theorem infoBe : ∃ i z, Tryd.prog.info? 86 = some i ∧ i.zero = some z ∧ i.size = 1 ∧ i.bytes = 16 ∧ z.cells.size = 1 := by
  obtain ⟨i, hi, h⟩ := Option.map_eq_some_iff.1 (show (Tryd.prog.info? 86).map (fun i => (i.zero, i.size, i.bytes)) = some (some .nilIface, 1, 16) by kernel_rfl)
  simp only [Prod.mk.injEq] at h
  exact ⟨i, _, hi, h.1, h.2.1, h.2.2, rfl⟩
theorem infoZi : ∃ i z, Tryd.prog.info? 3 = some i ∧ i.zero = some z ∧ i.size = 1 ∧ i.bytes = 8 ∧ z.cells.size = 1 := by
  obtain ⟨i, hi, h⟩ := Option.map_eq_some_iff.1 (show (Tryd.prog.info? 3).map (fun i => (i.zero, i.size, i.bytes)) = some (some (.int .i64 0), 1, 8) by kernel_rfl)
  simp only [Prod.mk.injEq] at h
  exact ⟨i, _, hi, h.1, h.2.1, h.2.2, rfl⟩
theorem wpList_append_be {w : World} {ops : Array Oper} {rest : List Oper} {o : Oper} {a : Act} {Q : Exit → Act → World → Prop} (hgd : o.guard = none) (s x : Operand)
    (ho : o.op = .call { callee := .builtin .append, args := #[s, x], argTypes := #[76, 76] })
    (base : Nat) (v : Value) (P : List Value) (hs : a.eval s = v) (hown : OwnB w base v P)
    (b c : Nat) (u : Value) (hx : a.eval x = .slice (some ⟨b, 0, none⟩) 1 c) (hu : w.cell? ⟨b, 0, none⟩ = some u) (h1 : u.oneCell' = true)
    (h63 : P.length ≤ 1048677) (hbase : base ≤ w.heap.size)
    (h : ∀ v' w', OwnB w' base v' (P ++ [u]) → w.grownBy w' v.ownBlock → wpList Tryd.prog ops Q rest (a.put o.dst v') w') : wpList Tryd.prog ops Q (o :: rest) a w := by
  obtain ⟨i, z, hi, hz, hz1, hz2, hz3⟩ := infoBe
  exact wpList_append_own _ hgd s x _ ho base 86 i z 1 16 Tryd.underlying76 hi hz hz1 hz2 hz3 (by decide) v P.length P hs hown ⟨b, 0, none⟩ 1 c [u] hx rfl (by intro j y hj; cases j with | zero => (simp at hj; subst hj; exact hu) | succ j => simp at hj) (fun y hy => by rw [List.mem_singleton.1 hy]; exact h1) (by unfold maxLen; omega) (by omega) hbase (fun v' w' h1 h2 _ => h v' w' (by show w'.ownsRow _ _ _ _ _ _; rw [List.length_append]; exact h1) h2)
theorem wpList_append_zi {w : World} {ops : Array Oper} {rest : List Oper} {o : Oper} {a : Act} {Q : Exit → Act → World → Prop} (hgd : o.guard = none) (s x : Operand)
    (ho : o.op = .call { callee := .builtin .append, args := #[s, x], argTypes := #[77, 77] })
    (base : Nat) (v : Value) (P : List Value) (hs : a.eval s = v) (hown : OwnZ w base v P)
    (b c : Nat) (u : Value) (hx : a.eval x = .slice (some ⟨b, 0, none⟩) 1 c) (hu : w.cell? ⟨b, 0, none⟩ = some u) (h1 : u.oneCell' = true)
    (h63 : P.length ≤ 1048677) (hbase : base ≤ w.heap.size)
    (h : ∀ v' w', OwnZ w' base v' (P ++ [u]) → w.grownBy w' v.ownBlock → wpList Tryd.prog ops Q rest (a.put o.dst v') w') : wpList Tryd.prog ops Q (o :: rest) a w := by
  obtain ⟨i, z, hi, hz, hz1, hz2, hz3⟩ := infoZi
  exact wpList_append_own _ hgd s x _ ho base 3 i z 1 8 Tryd.underlying77 hi hz hz1 hz2 hz3 (by decide) v P.length P hs hown ⟨b, 0, none⟩ 1 c [u] hx rfl (by intro j y hj; cases j with | zero => (simp at hj; subst hj; exact hu) | succ j => simp at hj) (fun y hy => by rw [List.mem_singleton.1 hy]; exact h1) (by unfold maxLen; omega) (by omega) hbase (fun v' w' h1 h2 _ => h v' w' (by show w'.ownsRow _ _ _ _ _ _; rw [List.length_append]; exact h1) h2)
/-- What the assertion to a bearer answers. -/
theorem as_b_if {o : Op5} (s : Value) (hk : o.k = 1 ∨ o.k = 2 ∨ o.k = 3) (W : World) : (Instr.typeAssert (pieceQ o s) 81 86 true).run Tryd.prog W = .ok (.tuple #[pieceQ o s, .bool true]) W := by
  rcases hk with h | h | h
  · rw [pieceQ_1 h]; exact as_i_b _ W
  · rw [pieceQ_2 h]; exact as_e_b _ W
  · rw [pieceQ_3 h]; exact as_r_b _ W
theorem as_b_no {o : Op5} (s : Value) (hk : o.k = 4) (W : World) : (Instr.typeAssert (pieceQ o s) 81 86 true).run Tryd.prog W = .ok (.tuple #[.nilIface, .bool false]) W := by
  rw [pieceQ_4 hk]; exact as_d_b _ W

set_option maxHeartbeats 2000000 in
set_option maxRecDepth 100000 in
theorem bearers_any {I : List Nat} {a : Nat → Addr} (v : Value) (E : List Op5) (w : World) (hI : ∀ i ∈ IxO, i ∈ I) (hS : Std I a w) (hv : ReO w v E) (hF : FitL E) (hl : E.length ≤ 1048576) :
    Calls Tryd.prog 48 #[v] w fun r w' => ∃ v1 v2, r = .returned (.tuple #[v1, v2, errOf a (badP E).2]) ∧ ((badP E).2 = 0 → ∃ P, OwnB w' w.heap.size v1 P ∧ PieD w' w.heap.size P ((bearI 0 E).map (·.2)) ∧ OwnZ w' w.heap.size v2 ((bearI 0 E).map fun x => .int .i64 x.1)) ∧ ((badP E).2 ≠ 0 → v1 = .slice none 0 0 ∧ v2 = .slice none 0 0) ∧ Below w.heap.size w w' := by
  have c1 := of_any v E w hI hS hv hF hl
  obtain ⟨D, ⟨p, cap, rfl, _, _, _⟩, hre⟩ := hv
  rw [forall2_len hre] at c1 ⊢
  clear hS hI hF hre
  obtain ⟨i1, hi1⟩ : ∃ i : Int, ((badP E).1 : Int) = i := ⟨_, rfl⟩
  rw [hi1] at c1
  cases hb : (badP E).2 with
  | succ e =>
    rw [hb, errOf_succ] at c1
    rw [errOf_succ]
    clear hi1 hb
    go_enter Tryd.func48, Tryd.ntmps48
    go_wp2_with fail
    refine c1.mono ?_; rintro r w2 ⟨v', rfl, _, hz, hb2⟩
    obtain rfl := hz (by omega)
    clear c1 hz
    go_wp2
    go_ret3
    exact ⟨.slice none 0 0, .slice none 0 0, rfl, fun h => (by cases h), fun _ => ⟨rfl, rfl⟩, hb2⟩
  | zero =>
    rw [hb, errOf_zero] at c1
    rw [errOf_zero]
    have HGd : Hid (∀ o ∈ E, opE o = 0) := bad_zero.1 hb
    clear hi1 hb
    go_enter Tryd.func48, Tryd.ntmps48
    go_wp2_with fail
    refine c1.mono ?_; rintro r w2 ⟨v', rfl, hok, _, hb2⟩
    obtain ⟨P, hP1, hP2⟩ := hok (by simp)
    obtain ⟨p', cap', rfl⟩ := own_slice hP1
    obtain ⟨n, hn⟩ : ∃ n, P.length = n := ⟨_, rfl⟩
    have hPE := forall2_len hP2
    have HN : Hid (E.length = n) := by show _ = _; omega
    rw [hn]
    have hln : n ≤ 1048576 := by omega
    have HV : Hid (∀ k, k < n → ∃ ga e s, p' = some ⟨ga, 0, none⟩ ∧ E[k]? = some e ∧ w2.cell? ⟨ga, k, none⟩ = some (pieceQ e s) ∧ OwnA w2 w.heap.size s e.A) := fun k hk => by
      obtain ⟨g, c, x, hv', hB, hx, hc⟩ := own_cell hP1 k (by omega)
      obtain ⟨e, s, he, rfl, ho⟩ := oneI hP2 hx
      simp only [Value.slice.injEq] at hv'
      exact ⟨g, e, s, hv'.1, he, hc, ho⟩
    have hz2 : Hid (w.heap.size ≤ w2.heap.size) := hb2.size
    have HB2 : Hid (Below w.heap.size w w2) := hb2
    clear c1 hok hP1 hP2 hn hPE hl hb2
    go_wp2_with fail
    go_loopw [8, 9, 25] (fun bs ns i wr => ∃ (k : Nat) (PB : List Value), k ≤ n ∧ i = .int .i64 k ∧ OwnB wr w2.heap.size bs PB ∧ PieD wr w.heap.size PB ((bearI 0 (E.take k)).map (·.2)) ∧ OwnZ wr w2.heap.size ns ((bearI 0 (E.take k)).map fun x => .int .i64 x.1) ∧ Below w2.heap.size w2 wr) (fun _ _ i _ => n - (RowKit.intOf i).toNat)
    case atStart => exact ⟨0, [], Nat.zero_le _, rfl, ⟨rfl, Or.inl ⟨rfl, rfl⟩⟩, .nil, ⟨rfl, Or.inl ⟨rfl, rfl⟩⟩, Below.refl _ _⟩
    case round =>
      obtain ⟨k, PB, hk, rfl, hob, hpd, hoz, hbw⟩ := hrel
      by_cases hlt : k < n
      · have hltI : (k : Int) < n := by omega
        obtain ⟨ga, e, s, rfl, he, hc, ho⟩ := HV.out k hlt
        have c0 := (hbw.cell (lt_of_cell hc)).trans hc
        have hge := HGd.out e (List.mem_of_getElem? he)
        have hsn := bearI_snoc he
        have hbl : (bearI 0 (E.take k)).length ≤ k := Nat.le_trans (bearI_len _ _) (by rw [List.length_take]; omega)
        have hPl := forall2_len hpd
        rw [List.length_map] at hPl
        by_cases h4 : e.k = 4
        · have as1 := as_b_no s h4
          rw [if_pos h4, List.append_nil] at hsn
          obtain ⟨u, x, hux⟩ := pieceQ_if e s
          rw [hux] at c0 as1
          have HX : Hid (OwnB wr w2.heap.size u8 PB ∧ PieD wr w.heap.size PB ((bearI 0 (E.take (k + 1))).map (·.2)) ∧ OwnZ wr w2.heap.size u9 ((bearI 0 (E.take (k + 1))).map fun x => .int .i64 x.1)) := by
            rw [hsn]; exact ⟨hob, hpd, hoz⟩
          clear hsn hob hpd hoz he hc ho hge hux hPl hbl h4
          go_wp2
          go_roundw
          case rel => exact ⟨k + 1, PB, by omega, by go_num, HX.out.1, HX.out.2.1, HX.out.2.2, hbw⟩
          case measure => simp [RowKit.intOf]; omega
        · have hkk : e.k = 1 ∨ e.k = 2 ∨ e.k = 3 := by rcases kinds_of hge with h | h | h | h <;> omega
          have as1 := as_b_if s hkk
          rw [if_neg h4] at hsn
          obtain ⟨u, x, hux⟩ := pieceQ_if e s
          have HU : Hid (pieceQ e s = .iface u x) := hux
          rw [hux] at c0 as1
          have ba : Below wr.heap.size wr (wr.alloc (.cells #[.iface u x] 86)) := (Below.refl _ _).alloc (Nat.le_refl _) _
          have b1 := hbw.trans (ba.mono hbw.size)
          have HO1 : Hid (OwnB (wr.alloc (.cells #[.iface u x] 86)) w2.heap.size u8 PB ∧ OwnZ (wr.alloc (.cells #[.iface u x] 86)) w2.heap.size u9 ((bearI 0 (E.take k)).map fun x => .int .i64 x.1) ∧ PieD (wr.alloc (.cells #[.iface u x] 86)) w.heap.size (PB ++ [.iface u x]) ((bearI 0 (E.take (k + 1))).map (·.2))) := by
            refine ⟨owns_below hob ba, owns_below hoz ba, ?_⟩
            rw [hsn, List.map_append]
            exact forall2_append (hpd.below ba) (.cons ⟨s, HU.out.symm, owns_below ho (hbw.trans (ba.mono hbw.size))⟩ .nil)
          have hu1 : (wr.alloc (.cells #[.iface u x] 86)).cell? ⟨wr.heap.size, 0, none⟩ = some (.iface u x) := by simp
          have hgb : Hid (∀ j, u8.ownBlock = some j → w2.heap.size ≤ j) := fun j hj => (owns_block hob j hj).1
          have hgz : Hid (∀ j, u9.ownBlock = some j → w2.heap.size ≤ j) := fun j hj => (owns_block hoz j hj).1
          have hPl2 : PB.length ≤ 1048677 := by omega
          have hZl : ((bearI 0 (E.take k)).map fun x => Value.int .i64 x.1).length ≤ 1048677 := by rw [List.length_map]; omega
          have HS : Hid (bearI 0 (E.take (k + 1)) = bearI 0 (E.take k) ++ [(k, e)]) := hsn
          clear hsn hob hpd hoz he hc ho hge hux hPl hbl h4 hkk ba hbw
          go_wp2_with (first
            | (at_builtin; refine wpList_append_be rfl (.tmp 36) (.tmp 38) rfl w2.heap.size u8 PB rfl HO1.out.1 wr.heap.size 1 (.iface u x) rfl hu1 rfl hPl2 b1.size ?_; intro v6 w6 own6 gr6; have b6 := b1.grown gr6 b1.size (fun j hj => hgb.out j hj); have HO6 : Hid (OwnB w6 w2.heap.size v6 (PB ++ [.iface u x]) ∧ OwnZ w6 w2.heap.size u9 ((bearI 0 (E.take k)).map fun x => .int .i64 x.1) ∧ PieD w6 w.heap.size (PB ++ [.iface u x]) ((bearI 0 (E.take (k + 1))).map (·.2))) := ⟨own6, keepT_own HO1.out.2.1 (keepT_grown HO1.out.1 gr6 (by decide)), HO1.out.2.2.keep (keepT_grown HO1.out.1 gr6 (by decide))⟩; have bA6 : Below w6.heap.size w6 (w6.alloc (.cells #[.int .i64 k] 3)) := (Below.refl _ _).alloc (Nat.le_refl _) _; have b7 := b6.trans (bA6.mono b6.size); have HO7 : Hid (OwnB (w6.alloc (.cells #[.int .i64 k] 3)) w2.heap.size v6 (PB ++ [.iface u x]) ∧ OwnZ (w6.alloc (.cells #[.int .i64 k] 3)) w2.heap.size u9 ((bearI 0 (E.take k)).map fun x => .int .i64 x.1) ∧ PieD (w6.alloc (.cells #[.int .i64 k] 3)) w.heap.size (PB ++ [.iface u x]) ((bearI 0 (E.take (k + 1))).map (·.2))) := ⟨owns_below HO6.out.1 bA6, owns_below HO6.out.2.1 bA6, HO6.out.2.2.below bA6⟩; have hu7 : (w6.alloc (.cells #[.int .i64 k] 3)).cell? ⟨w6.heap.size, 0, none⟩ = some (.int .i64 k) := (by simp); clear own6 gr6 HO6 HO1 bA6 hu1 b6 b1)
            | (at_builtin; refine wpList_append_zi rfl (.tmp 40) (.tmp 42) rfl w2.heap.size u9 _ rfl HO7.out.2.1 w6.heap.size 1 (.int .i64 k) rfl hu7 rfl hZl b7.size ?_; intro v8 w8 own8 gr8; have b8 := b7.grown gr8 b7.size (fun j hj => hgz.out j hj); have HO8 : Hid (OwnB w8 w2.heap.size v6 (PB ++ [.iface u x]) ∧ OwnZ w8 w2.heap.size v8 ((bearI 0 (E.take (k + 1))).map fun x => .int .i64 x.1) ∧ PieD w8 w.heap.size (PB ++ [.iface u x]) ((bearI 0 (E.take (k + 1))).map (·.2))) := ⟨keepT_own HO7.out.1 (keepT_grown HO7.out.2.1 gr8 (by decide)), (by rw [HS.out, List.map_append]; exact own8), HO7.out.2.2.keep (keepT_grown HO7.out.2.1 gr8 (by decide))⟩; clear own8 gr8 HO7 hu7 b7))
          go_roundw
          case rel => exact ⟨k + 1, _, by omega, by go_num, HO8.out.1, HO8.out.2.2, HO8.out.2.1, b8⟩
          case measure => simp [RowKit.intOf]; omega
      · have hltI : ¬ (k : Int) < n := by omega
        have hE : E.take k = E := List.take_of_length_le (by rw [HN.out]; omega)
        rw [hE] at hpd hoz
        have HX : Hid (OwnB wr w.heap.size u8 PB ∧ PieD wr w.heap.size PB ((bearI 0 E).map (·.2)) ∧ OwnZ wr w.heap.size u9 ((bearI 0 E).map fun x => .int .i64 x.1)) := ⟨own_weaken hob hz2.out, hpd, own_weaken hoz hz2.out⟩
        have b9 := HB2.out.trans (hbw.mono hz2.out)
        clear hob hpd hoz hE hbw
        go_wp2
        go_ret3
        exact ⟨u8, u9, rfl, ⟨PB, HX.out.1, HX.out.2.1, HX.out.2.2⟩, b9⟩
end Go.Proofs.YtkgflmbhkbeakaaDoor

/- Of all lists of operations vellumlaw05.OpsPieces answers true. -/
namespace Go.Proofs.YtkgflmbhkbeakaaDoor
open Go Go.RowKit Go.Lib
set_option linter.unusedVariables false

theorem opQ_1 {e : Op5} (hg : opE e = 0) (hk : e.k = 1) (s : Value) (w : World) (hR : RN w s e.A) (hl : e.A.length ≤ 2097152) :
    Calls Tryd.prog 148 #[.agg #[s, .string e.t, .int .i64 (scs e.t.data.toList).length]] w fun r w' => ∃ v', r = .returned (opV e v') ∧ OwnA w' w.heap.size v' e.A ∧ Below w.heap.size w w' := by
  refine (insOp s e.A e.t _ w hR hl).mono fun r w' ⟨v', h1, h2, h3⟩ => ⟨v', ?_, h2, h3⟩
  rw [h1]
  rcases op_good hg with ⟨hi, _⟩ | ⟨_, _, h⟩ | ⟨_, _, h⟩
  · have hc := hi.count
    rcases hi.kind with ⟨_, hv⟩ | ⟨h2, _⟩
    · obtain ⟨k, t, v, c, A⟩ := e
      simp only at hk hv hc
      subst hk hv hc
      rfl
    · omega
  · omega
  · omega
theorem opQ_2 {e : Op5} (hg : opE e = 0) (hk : e.k = 2) (s : Value) (w : World) (hR : RN w s e.A) (hl : e.A.length ≤ 2097152) :
    Calls Tryd.prog 150 #[.agg #[s, .string e.t, valP e.v]] w fun r w' => ∃ v', r = .returned (opV e v') ∧ OwnA w' w.heap.size v' e.A ∧ Below w.heap.size w w' := by
  rcases op_good hg with ⟨hi, _⟩ | ⟨_, _, h⟩ | ⟨_, _, h⟩
  · refine (embOp_any s e.A e.t e.v w hi.val hR hl).mono fun r w' ⟨v', h1, h2, h3⟩ => ⟨v', ?_, h2, h3⟩
    rw [h1]
    have hc := hi.count
    obtain ⟨k, t, v, c, A⟩ := e
    simp only at hk hc
    subst hk hc
    rfl
  · omega
  · omega
theorem cnt_flds {e : Op5} (h : Cnt e) : e.t = ⟨#[]⟩ ∧ e.v = z0 := by
  refine ⟨?_, h.val⟩
  have := h.text
  have h0 : e.t.toList = [] := List.isEmpty_iff.1 this
  rw [toList_data] at h0
  exact ByteArray.ext (Array.ext' h0)
theorem opQ_3 {e : Op5} (hg : opE e = 0) (hk : e.k = 3) (s : Value) (w : World) (hR : RN w s e.A) (hl : e.A.length ≤ 2097152) :
    Calls Tryd.prog 152 #[.agg #[s, .int .i64 e.c]] w fun r w' => ∃ v', r = .returned (opV e v') ∧ OwnA w' w.heap.size v' e.A ∧ Below w.heap.size w w' := by
  refine (retOp s e.A e.c w hR hl).mono fun r w' ⟨v', h1, h2, h3⟩ => ⟨v', ?_, h2, h3⟩
  rw [h1]
  rcases op_good hg with ⟨_, h⟩ | ⟨hc, _, _⟩ | ⟨_, _, h⟩
  · omega
  · obtain ⟨ht, hv⟩ := cnt_flds hc
    obtain ⟨k, t, v, c, A⟩ := e
    simp only at hk ht hv
    subst hk ht hv
    rfl
  · omega
theorem opQ_4 {e : Op5} (hg : opE e = 0) (hk : e.k = 4) (w : World) :
    Calls Tryd.prog 154 #[.agg #[.int .i64 e.c]] w fun r w' => ∃ v', r = .returned (opV e v') ∧ OwnA w' w.heap.size v' e.A ∧ Below w.heap.size w w' := by
  refine (delOp e.c w).mono fun r w' ⟨h1, h3⟩ => ⟨.slice none 0 0, ?_, ?_, h3⟩
  · rw [h1]
    rcases op_good hg with ⟨_, h⟩ | ⟨_, _, h⟩ | ⟨hc, _, _⟩
    · omega
    · omega
    · obtain ⟨ht, hv⟩ := cnt_flds hc
      obtain ⟨k, t, v, c, A⟩ := e
      simp only at hk ht hv
      subst hk ht hv
      rfl
  · rw [drop_A hg hk]; exact ⟨rfl, Or.inl ⟨rfl, rfl⟩⟩

set_option maxHeartbeats 4000000 in
set_option maxRecDepth 100000 in
theorem opsPieces_any {I : List Nat} {ad : Nat → Addr} (va : Value) (A : List Op5) (w : World) (hI : ∀ i ∈ IxO, i ∈ I) (hS : Std I ad w) (hN : Sent ad w) (ra : ReO w va A) (fA : FitL A) (lA : A.length ≤ 1048576) :
    Calls Tryd.prog 7 #[va] w fun r w' => r = .returned (.bool true) ∧ Below w.heap.size w w' := by
  have cF := fixed5_any w hI hS
  have cB : Hid (∀ W, Below w.heap.size w W → Calls Tryd.prog 46 #[va] W fun r w' => r = .returned (.tuple #[.int .i64 (badP A).1, .int .i64 (badP A).2]) ∧ Below W.heap.size W w') := fun W hW => refBad_any va A W (hS.below hW) (ra.below hW) fA lA
  have cO : Hid (∀ W, Below w.heap.size w W → Calls Tryd.prog 47 #[va] W fun r w' => ∃ v', r = .returned (.tuple #[v', .int .i64 (badP A).1, errOf ad (badP A).2]) ∧ ((badP A).2 = 0 → ∃ P, OwnI w' W.heap.size v' P ∧ PieD w' W.heap.size P A) ∧ ((badP A).2 ≠ 0 → v' = .slice none 0 0) ∧ Below W.heap.size W w') := fun W hW => of_any va A W hI (hS.below hW) (ra.below hW) fA lA
  have cE : Hid (∀ W, Below w.heap.size w W → Calls Tryd.prog 48 #[va] W fun r w' => ∃ v1 v2, r = .returned (.tuple #[v1, v2, errOf ad (badP A).2]) ∧ ((badP A).2 = 0 → ∃ P, OwnB w' W.heap.size v1 P ∧ PieD w' W.heap.size P ((bearI 0 A).map (·.2)) ∧ OwnZ w' W.heap.size v2 ((bearI 0 A).map fun x => .int .i64 x.1)) ∧ ((badP A).2 ≠ 0 → v1 = .slice none 0 0 ∧ v2 = .slice none 0 0) ∧ Below W.heap.size W w') := fun W hW => bearers_any va A W hI (hS.below hW) (ra.below hW) fA lA
  have cN : Hid (∀ W, Below w.heap.size w W → Calls Tryd.prog 11 #[errOf ad (badP A).2] W fun r w' => r = .returned (.int .i64 (badP A).2) ∧ Below W.heap.size W w') := fun W hW => num_of (hN.below hW) _ (badP_le A)
  have HR : Hid (ReO w va A ∧ FitL A) := ⟨ra, fA⟩
  obtain ⟨n, hn⟩ : ∃ n, A.length = n := ⟨_, rfl⟩
  obtain ⟨pa, ca, rfl, hca⟩ : ∃ p c, va = .slice p n c ∧ n ≤ c := by
    obtain ⟨D, ⟨p, c, h1, h2, _⟩, hre⟩ := ra
    have := forall2_len hre
    exact ⟨p, c, by rw [h1, this, hn], by omega⟩
  have hl : n ≤ 1048576 := by omega
  have HN : Hid (A.length = n) := hn
  have HG : Hid ((badP A).2 = 0 → ∀ o ∈ A, opE o = 0) := fun h => bad_zero.1 h
  obtain ⟨bi, hbi⟩ : ∃ x : Int, (((badP A).1 : Nat) : Int) = x := ⟨_, rfl⟩
  obtain ⟨be, hbe⟩ : ∃ x, (badP A).2 = x := ⟨_, rfl⟩
  rw [hbi, hbe] at cB
  rw [hbi, hbe] at cO
  rw [hbe] at cE cN HG
  clear hS hN hI ra fA lA hn hbi hbe
  cases be with
  | succ x =>
    simp only [errOf_succ] at cO cE cN
    obtain ⟨z, hz⟩ : ∃ z : Int, ((x + 1 : Nat) : Int) = z := ⟨_, rfl⟩
    have hz0 : (z != 0) = true := by rw [← hz, bne_iff_ne]; omega
    rw [hz] at cB cN
    clear hz
    go_enter Tryd.func7, Tryd.ntmps7
    go_wp2_with fail
    refine cF.mono ?_; rintro r w1 ⟨rfl, h1⟩
    clear cF
    go_wp2_with fail
    refine (cB.out _ h1).mono ?_; rintro r w2 ⟨rfl, g2⟩
    have h2 := h1.trans (g2.mono h1.size)
    clear g2 h1
    go_wp2_with fail
    refine (cO.out _ h2).mono ?_; rintro r w3 ⟨v5, rfl, _, hv5, g3⟩
    have h3 := h2.trans (g3.mono h2.size)
    obtain rfl := hv5 (by omega)
    clear g3 h2 hv5
    go_wp2_with fail
    refine (cE.out _ h3).mono ?_; rintro r w4 ⟨v8, v9, rfl, _, hv8, g4⟩
    have h4 := h3.trans (g4.mono h3.size)
    obtain ⟨rfl, rfl⟩ := hv8 (by omega)
    clear g4 h3 hv8
    go_wp2_with fail
    refine (cN.out _ h4).mono ?_; rintro r w5 ⟨rfl, g5⟩
    have h5 := h4.trans (g5.mono h4.size)
    clear g5 h4
    go_wp2_with fail
    refine (cN.out _ h5).mono ?_; rintro r w6 ⟨rfl, g6⟩
    have h6 := h5.trans (g6.mono h5.size)
    clear g6 h5
    go_wp2_with fail
    refine (cN.out _ h6).mono ?_; rintro r w7 ⟨rfl, g7⟩
    have h7 := h6.trans (g7.mono h6.size)
    clear g7 h6
    go_wp2
    go_ret
    exact ⟨rfl, h7⟩
  | zero =>
    simp only [errOf_zero] at cO cE cN
    have hz0 : (((0 : Nat) : Int) != 0) = false := by decide
    go_enter Tryd.func7, Tryd.ntmps7
    go_wp2_with fail
    refine cF.mono ?_; rintro r w1 ⟨rfl, h1⟩
    clear cF
    go_wp2_with fail
    refine (cB.out _ h1).mono ?_; rintro r w2 ⟨rfl, g2⟩
    have h2 := h1.trans (g2.mono h1.size)
    clear g2 h1
    go_wp2_with fail
    refine (cO.out _ h2).mono ?_; rintro r w3 ⟨v5, rfl, hok, _, g3⟩
    have h3 := h2.trans (g3.mono h2.size)
    obtain ⟨P, hP1, hP2⟩ := hok (by simp)
    obtain ⟨p5, c5, rfl⟩ := own_slice hP1
    have hPl : P.length = n := (forall2_len hP2).trans HN.out
    have X3 : Hid (OwnI w3 w2.heap.size (.slice p5 P.length c5) P ∧ PieD w3 w2.heap.size P A) := ⟨hP1, hP2⟩
    rw [hPl]
    clear h2 hok hP1 hP2 g3
    go_wp2_with fail
    refine (cE.out _ h3).mono ?_; rintro r w4 ⟨v8, v9, rfl, hok, _, g4⟩
    have h4 := h3.trans (g4.mono h3.size)
    obtain ⟨PB, hB1, hB2, hB3⟩ := hok (by simp)
    obtain ⟨p8, c8, rfl⟩ := own_slice hB1
    obtain ⟨p9, c9, rfl⟩ := own_slice hB3
    obtain ⟨nb, hnb⟩ : ∃ x, PB.length = x := ⟨_, rfl⟩
    have hBl : (bearI 0 A).length = nb := by have := forall2_len hB2; rw [List.length_map] at this; omega
    have hBm : ((bearI 0 A).map fun x => Value.int .i64 x.1).length = nb := by rw [List.length_map]; exact hBl
    have hnn : nb ≤ 1048576 := by have := bearI_len A 0; have := HN.out; omega
    have HV : Hid (∀ i, i < n → ∃ d e b off ga s, pa = some ⟨b, off, none⟩ ∧ OpAt w4 b (off + i * 7) d ∧ A[i]? = some e ∧ ovV d = opV e (slV d.2.2.2.2) ∧ d.1 = e.k ∧ RN w4 (slV d.2.2.2.2) e.A ∧ p5 = some ⟨ga, 0, none⟩ ∧ w4.cell? ⟨ga, i, none⟩ = some (pieceQ e s) ∧ RN w4 s e.A ∧ opE e = 0 ∧ Fit e) := fun i hi => by
      obtain ⟨D, ⟨p, c, hv, _, _, hat⟩, hre⟩ := HR.out.1.below h4
      have hDl : D.length = n := (forall2_len hre).trans HN.out
      simp only [Value.slice.injEq] at hv
      obtain ⟨d, hd⟩ : ∃ d, D[i]? = some d := ⟨_, List.getElem?_eq_getElem (by omega)⟩
      obtain ⟨e, he, hr⟩ := forall2_get hre i d hd
      obtain ⟨b, off, hb, hod⟩ := hat i d hd
      obtain ⟨ga, c', x, hv', hB, hx, hc⟩ := own_cell X3.out.1 i (by omega)
      obtain ⟨e', s, he', rfl, ho⟩ := oneI X3.out.2 hx
      obtain rfl : e = e' := Option.some.inj (he.symm.trans he')
      simp only [Value.slice.injEq] at hv'
      have hm := List.mem_of_getElem? he
      exact ⟨d, e, b, off, ga, s, hv.1.trans hb, hod, he, opV_of hr, hr.1, hr.2.2.2.2, hv'.1, (g4.cell (lt_of_cell hc)).trans hc, (own_RN ho).below g4, HG.out (by trivial) e hm, HR.out.2 e hm⟩
    have HW : Hid (∀ i e, A[i]? = some e → e.k ≠ 4 → ∃ c gb gz s, (bearI 0 (A.take i)).length = c ∧ c < nb ∧ p8 = some ⟨gb, 0, none⟩ ∧ p9 = some ⟨gz, 0, none⟩ ∧ w4.cell? ⟨gb, c, none⟩ = some (pieceQ e s) ∧ w4.cell? ⟨gz, c, none⟩ = some (.int .i64 i) ∧ RN w4 s e.A) := fun i e he hk => by
      have hat := bearI_at he hk
      have hcl : (bearI 0 (A.take i)).length < nb := by have := (List.getElem?_eq_some_iff.1 hat).1; omega
      obtain ⟨gb, c', x, hv', hB, hx, hc⟩ := own_cell hB1 (bearI 0 (A.take i)).length (by omega)
      obtain ⟨e', s, he', rfl, ho⟩ := oneI hB2 hx
      obtain ⟨gz, c'', y, hv'', hZ, hy, hcz⟩ := own_cell hB3 (bearI 0 (A.take i)).length (by omega)
      rw [List.getElem?_map, hat] at he' hy
      obtain rfl : e = e' := by simpa using he'
      obtain rfl : _ = y := by simpa using hy
      simp only [Value.slice.injEq] at hv' hv''
      exact ⟨_, gb, gz, s, rfl, hcl, hv'.1, hv''.1, hc, hcz, own_RN ho⟩
    rw [hnb, hBm]
    have HCn : Hid ((bearI 0 A).length = nb) := hBl
    clear h3 hok hB1 hB2 hB3 g4 X3 hPl hBl hBm hnb
    go_wp2_with fail
    refine (cN.out _ h4).mono ?_; rintro r w5 ⟨rfl, g5⟩
    have h5 := h4.trans (g5.mono h4.size)
    go_wp2_with fail
    refine (cN.out _ h5).mono ?_; rintro r w6 ⟨rfl, g6⟩
    have h6 := h5.trans (g6.mono h5.size)
    go_wp2_with fail
    refine (cN.out _ h6).mono ?_; rintro r w7 ⟨rfl, g7⟩
    have h7 : Below w4.heap.size w4 w7 := (g5.trans (g6.mono g5.size)).trans (g7.mono (Nat.le_trans g5.size g6.size))
    have HB4 : Hid (Below w.heap.size w w4) := h4
    clear g5 g6 g7 h5 h6 cN cB cO cE h4
    go_wp2_with fail
    go_loopw [11, 78, 12, 13] (fun kk i _ _ wr => ∃ (m c : Nat), m ≤ n ∧ i = .int .i64 m ∧ kk = .int .i64 c ∧ c ≤ nb ∧ Hid ((bearI 0 (A.take m)).length = c) ∧ Below w4.heap.size w4 wr) (fun _ i _ _ _ => n - (RowKit.intOf i).toNat)
    case atStart => exact ⟨0, 0, Nat.zero_le _, rfl, rfl, Nat.zero_le _, rfl, h7⟩
    case round =>
      clear h7
      obtain ⟨m, c, hm, rfl, rfl, hcn, HC, hbw⟩ := hrel
      by_cases hlt : m < n
      · have hltI : (m : Int) < n := by omega
        obtain ⟨d, e, b, off, ga, s, rfl, hin, he, hov, hdk, hrs, rfl, hc, hrp, hge, hfe⟩ := HV.out m hlt
        have hsn := bearI_snoc he
        have hkk := kinds_of hge
        have cR : ∀ W, Below w4.heap.size w4 W → Calls Tryd.prog 50 #[ovV d] W fun r w' => r = .returned (.int .i64 (len5 e)) ∧ Below W.heap.size W w' := fun W hW => by
          rw [hov]; exact refLenO_any e _ W hge hfe
        have cS : ∀ W v, Below w4.heap.size w4 W → RN W v e.A → Calls Tryd.prog 49 #[opV e v, ovV d] W fun r w' => r = .returned (.bool true) ∧ Below W.heap.size W w' := fun W v hW hv => by
          have := sameP_any e e v (slV d.2.2.2.2) W hv.row (hrs.below hW).row (by have := hfe.n; omega) (by have := hfe.n; omega)
          rw [decide_eq_true rfl, ← hov] at this
          exact this
        have hAl : e.A.length ≤ 2097152 := by have := hfe.n; omega
        obtain ⟨c0, c1, c2, c3, c4, c5', c6⟩ := hin.below hbw
        have cp := (hbw.cell (lt_of_cell hc)).trans hc
        have HE : Hid (A[m]? = some e ∧ RN w4 s e.A ∧ RN w4 (slV d.2.2.2.2) e.A ∧ bearI 0 (A.take (m + 1)) = bearI 0 (A.take m) ++ (if e.k = 4 then [] else [(m, e)])) := ⟨he, hrp, hrs, hsn⟩
        have HOk : Hid (d.1 = e.k) := hdk
        clear hin he hrs hc hrp hsn hov hdk
        obtain ⟨f, t, ⟨x, z, u⟩, cc1, p, j, cc⟩ := d
        simp only [slV] at c0 c1 c2 c3 c4 c5' c6
        simp only [ovV, ovC, slV] at cR cS
        simp only at HOk
        have HU : Hid (∀ w', Below wr.drew.heap.size wr.drew w' → (w'.cell? ⟨b, off + m * 7, none⟩ = some (.int .i64 f) ∧ w'.cell? ⟨b, off + m * 7 + 1, none⟩ = some (.string t) ∧ w'.cell? ⟨b, off + m * 7 + 2, none⟩ = some (.int .i64 x) ∧ w'.cell? ⟨b, off + m * 7 + 3, none⟩ = some (.int .i64 z) ∧ w'.cell? ⟨b, off + m * 7 + 4, none⟩ = some (.string u) ∧ w'.cell? ⟨b, off + m * 7 + 5, none⟩ = some (.int .i64 cc1) ∧ w'.cell? ⟨b, off + m * 7 + 6, none⟩ = some (.slice p j cc))) := fun w' hb => ⟨(hb.cell (lt_of_cell (w := wr.drew) c0)).trans c0, (hb.cell (lt_of_cell (w := wr.drew) c1)).trans c1, (hb.cell (lt_of_cell (w := wr.drew) c2)).trans c2, (hb.cell (lt_of_cell (w := wr.drew) c3)).trans c3, (hb.cell (lt_of_cell (w := wr.drew) c4)).trans c4, (hb.cell (lt_of_cell (w := wr.drew) c5')).trans c5', (hb.cell (lt_of_cell (w := wr.drew) c6)).trans c6⟩
        have hz1 : w4.heap.size ≤ wr.drew.heap.size := hbw.size
        obtain ⟨L9, hL9⟩ : ∃ x, len5 e = x := ⟨_, rfl⟩
        obtain ⟨V9, hV9⟩ : ∃ x, valP e.v = x := ⟨_, rfl⟩
        obtain ⟨ps, ls, cs, rfl⟩ : ∃ p l c, s = .slice p l c := by obtain ⟨p, c, h, _⟩ := HE.out.2.1.row.val; exact ⟨_, _, _, h⟩
        rw [hL9] at cR
        rcases hkk with h | h | h | h
        · have hop : ∀ (W : World) (s1 : Value), RN W s1 e.A → Calls Tryd.prog 148 #[.agg #[s1, .string e.t, .int .i64 (scs e.t.data.toList).length]] W fun r w' => ∃ v', r = .returned (opV e v') ∧ OwnA w' W.heap.size v' e.A ∧ Below W.heap.size W w' := fun W s1 hs => opQ_1 hge h s1 W hs hAl
          have hlen : ∀ (W : World) (s1 : Value), Calls Tryd.prog 147 #[.agg #[s1, .string e.t, .int .i64 (scs e.t.data.toList).length]] W fun r w' => r = .returned (.int .i64 L9) ∧ Below W.heap.size W w' := fun W s1 => by
            have h9 := ilen_any s1 e.t ((scs e.t.data.toList).length) W
            rw [← hL9]; unfold len5 lenO; rw [if_pos (Or.inl h), if_pos h]; exact h9
          rw [pieceQ_1 h] at cp
          obtain rfl : f = 1 := HOk.out.trans h
          have HK : Hid (e.k = 1) := h
          obtain ⟨sn, hsn⟩ : ∃ x : Int, ((scs e.t.data.toList).length : Int) = x := ⟨_, rfl⟩
          have HSN : Hid (((scs e.t.data.toList).length : Int) = sn) := hsn
          rw [hsn] at hop hlen cp
          have HOP : Hid _ := hop
          have HLN : Hid _ := hlen
          have HSm : Hid _ := cS
          clear h hL9 hV9 hop hlen cS hsn
          go_wp2_with fail
          have cOp := fun W (hW : Below w4.heap.size w4 W) => HOP.out W (.slice ps ls cs) (HE.out.2.1.below hW)
          have cLn := fun W => HLN.out W (.slice ps ls cs)
          go_region_held3 (fun w' => (w'.cell? ⟨b, off + m * 7, none⟩ = some (.int .i64 1) ∧ w'.cell? ⟨b, off + m * 7 + 1, none⟩ = some (.string t) ∧ w'.cell? ⟨b, off + m * 7 + 2, none⟩ = some (.int .i64 x) ∧ w'.cell? ⟨b, off + m * 7 + 3, none⟩ = some (.int .i64 z) ∧ w'.cell? ⟨b, off + m * 7 + 4, none⟩ = some (.string u) ∧ w'.cell? ⟨b, off + m * 7 + 5, none⟩ = some (.int .i64 cc1) ∧ w'.cell? ⟨b, off + m * 7 + 6, none⟩ = some (.slice p j cc)) ∧ Below w4.heap.size w4 w')
            (exact ⟨by first | (with_reducible assumption) | (simp [*]; done), by first | (with_reducible assumption) | exact hbw.drew⟩)
            (first
              | (go_at_call 50; refine (cR _ ?_).mono ?_; (· first | assumption | (apply And.right; assumption)); rintro r wD ⟨rfl, bD'⟩; have bD : Below wr.drew.heap.size wr.drew wD := bC.trans (bD'.mono bC.size); have jD : Below w4.heap.size w4 wD := (hbw.drew).trans (bD.mono hz1); have mmD := HU.out _ bD)
              | (go_at_call 147; refine (cLn _).mono ?_; rintro r wC ⟨rfl, bC'⟩; have bC : Below wr.drew.heap.size wr.drew wC := bB.trans (bC'.mono bB.size); have jC : Below w4.heap.size w4 wC := (hbw.drew).trans (bC.mono hz1); have mmC := HU.out _ bC)
              | (go_at_call 49; refine cSa.out.mono ?_; rintro r wB ⟨rfl, bB'⟩; have bB : Below wr.drew.heap.size wr.drew wB := bA.trans (bB'.mono bA.size); have jB : Below w4.heap.size w4 wB := (hbw.drew).trans (bB.mono hz1); have mmB := HU.out _ bB)
              | (go_at_call 148; refine (cOp _ ?_).mono ?_; (· first | assumption | exact hbw.drew | (apply And.right; assumption)); rintro r wA ⟨vA, rfl, oA, bA⟩; obtain ⟨pA, cA, rfl⟩ := own_slice oA; have jA : Below w4.heap.size w4 wA := (hbw.drew).trans (bA.mono hz1); have mmA := HU.out _ bA; have cSa : Hid (Calls Tryd.prog 49 #[opV e (.slice pA e.A.length cA), .agg #[.int .i64 1, .string t, .int .i64 x, .int .i64 z, .string u, .int .i64 cc1, .slice p j cc]] wA fun r w' => r = .returned (.bool true) ∧ Below wA.heap.size wA w') := HSm.out wA (.slice pA e.A.length cA) jA (own_RN oA); clear oA))
          clear cR cOp cLn cSa mmA mmB mmC jA jB jC bA bB bC bD cp c0 c1 c2 c3 c4 c5' c6
          obtain ⟨c0, c1, c2, c3, c4, c5', c6⟩ := mmD
          obtain ⟨c', gb, gz, sb, hcc, hcb, rfl, rfl, hcB, hcZ, hrB⟩ := HW.out m e HE.out.1 (by rw [HK.out]; decide)
          obtain rfl : c' = c := hcc.symm.trans HC.out
          have cB := (jD.cell (lt_of_cell hcB)).trans hcB
          have cZ := (jD.cell (lt_of_cell hcZ)).trans hcZ
          obtain ⟨pB, lB, kB, rfl⟩ : ∃ p l c, sb = .slice p l c := by obtain ⟨p, c, h, _⟩ := hrB.row.val; exact ⟨_, _, _, h⟩
          rw [pieceQ_1 HK.out] at cB
          obtain ⟨sm, hsm⟩ : ∃ x : Int, ((scs e.t.data.toList).length : Int) = x := ⟨_, rfl⟩
          have HOP2 := HOP.out
          rw [hsm] at cB
          obtain rfl : sn = sm := HSN.out.symm.trans hsm
          clear hsm
          have cOp := fun W (hW : Below w4.heap.size w4 W) => HOP2 W (.slice pB lB kB) (hrB.below hW)
          have cAt := fun W (hW : Below w4.heap.size w4 W) => attributes_any (.slice pB lB kB) e.A W (hrB.below hW).row (hrB.below hW).nz hAl
          have cSA : Hid (∀ W v, Below w4.heap.size w4 W → RN W v e.A → Calls Tryd.prog 49 #[.agg #[.int .i64 0, .string ⟨#[]⟩, .int .i64 0, .int .i64 0, .string ⟨#[]⟩, .int .i64 0, v], .agg #[.int .i64 0, .string ⟨#[]⟩, .int .i64 0, .int .i64 0, .string ⟨#[]⟩, .int .i64 0, .slice p j cc]] W fun r w' => r = .returned (.bool true) ∧ Below W.heap.size W w') := fun W v hW hv => by
            have := sameP_any ⟨0, ⟨#[]⟩, z0, 0, e.A⟩ ⟨0, ⟨#[]⟩, z0, 0, e.A⟩ v (.slice p j cc) W hv.row (HE.out.2.2.1.below hW).row (Nat.le_trans hAl (by decide)) (Nat.le_trans hAl (by decide))
            rw [decide_eq_true rfl] at this
            exact this
          have HU2 : Hid (∀ w', Below wD.drew.heap.size wD.drew w' → ((w'.cell? ⟨b, off + m * 7, none⟩ = some (.int .i64 1) ∧ w'.cell? ⟨b, off + m * 7 + 1, none⟩ = some (.string t) ∧ w'.cell? ⟨b, off + m * 7 + 2, none⟩ = some (.int .i64 x) ∧ w'.cell? ⟨b, off + m * 7 + 3, none⟩ = some (.int .i64 z) ∧ w'.cell? ⟨b, off + m * 7 + 4, none⟩ = some (.string u) ∧ w'.cell? ⟨b, off + m * 7 + 5, none⟩ = some (.int .i64 cc1) ∧ w'.cell? ⟨b, off + m * 7 + 6, none⟩ = some (.slice p j cc)) ∧ w'.cell? ⟨gb, c', none⟩ = some (.iface 91 (.agg #[.slice pB lB kB, .string e.t, .int .i64 sn])) ∧ w'.cell? ⟨gz, c', none⟩ = some (.int .i64 m))) := fun w' hb => ⟨⟨(hb.cell (lt_of_cell (w := wD.drew) c0)).trans c0, (hb.cell (lt_of_cell (w := wD.drew) c1)).trans c1, (hb.cell (lt_of_cell (w := wD.drew) c2)).trans c2, (hb.cell (lt_of_cell (w := wD.drew) c3)).trans c3, (hb.cell (lt_of_cell (w := wD.drew) c4)).trans c4, (hb.cell (lt_of_cell (w := wD.drew) c5')).trans c5', (hb.cell (lt_of_cell (w := wD.drew) c6)).trans c6⟩, (hb.cell (lt_of_cell (w := wD.drew) cB)).trans cB, (hb.cell (lt_of_cell (w := wD.drew) cZ)).trans cZ⟩
          have hcI : (c' : Int) < (nb : Int) := by omega
          have hcG : decide ((nb : Int) ≤ (c' : Int)) = false := decide_eq_false (by omega)
          have hcO : (0 : Int) ≤ (c' : Int) := by omega
          have hcN : decide (nb ≤ c') = false := decide_eq_false (by omega)
          have hcM : ¬ nb ≤ c' := by omega
          have hzD : w4.heap.size ≤ wD.drew.heap.size := jD.size
          clear hcB hcZ HOP2
          go_wp2_with fail
          go_region_held3 (fun w' => ((w'.cell? ⟨b, off + m * 7, none⟩ = some (.int .i64 1) ∧ w'.cell? ⟨b, off + m * 7 + 1, none⟩ = some (.string t) ∧ w'.cell? ⟨b, off + m * 7 + 2, none⟩ = some (.int .i64 x) ∧ w'.cell? ⟨b, off + m * 7 + 3, none⟩ = some (.int .i64 z) ∧ w'.cell? ⟨b, off + m * 7 + 4, none⟩ = some (.string u) ∧ w'.cell? ⟨b, off + m * 7 + 5, none⟩ = some (.int .i64 cc1) ∧ w'.cell? ⟨b, off + m * 7 + 6, none⟩ = some (.slice p j cc)) ∧ w'.cell? ⟨gb, c', none⟩ = some (.iface 91 (.agg #[.slice pB lB kB, .string e.t, .int .i64 sn])) ∧ w'.cell? ⟨gz, c', none⟩ = some (.int .i64 m)) ∧ Below w4.heap.size w4 w')
            (exact ⟨by first | (with_reducible assumption) | (simp [*]; done), by first | (with_reducible assumption) | exact jD.drew⟩)
            (first
              | (go_at_call 49; refine cSa.out.mono ?_; rintro r wF ⟨rfl, bF'⟩; have bF : Below wD.drew.heap.size wD.drew wF := bE.trans (bF'.mono bE.size); have jF : Below w4.heap.size w4 wF := (jD.drew).trans (bF.mono hzD); have mmF := HU2.out _ bF)
              | (go_at_call 148; refine (cOp _ ?_).mono ?_; (· first | assumption | exact jD.drew | (apply And.right; assumption)); rintro r wE ⟨vA, rfl, oA, bE⟩; obtain ⟨pA, cA, rfl⟩ := own_slice oA; have jE : Below w4.heap.size w4 wE := (jD.drew).trans (bE.mono hzD); have mmE := HU2.out _ bE; have cSa : Hid (Calls Tryd.prog 49 #[opV e (.slice pA e.A.length cA), .agg #[.int .i64 1, .string t, .int .i64 x, .int .i64 z, .string u, .int .i64 cc1, .slice p j cc]] wE fun r w' => r = .returned (.bool true) ∧ Below wE.heap.size wE w') := HSm.out wE (.slice pA e.A.length cA) jE (own_RN oA); clear oA))
          clear cOp cSa mmE bE bF jE c0 c1 c2 c3 c4 c5' c6 cB cZ
          obtain ⟨⟨c0, c1, c2, c3, c4, c5', c6⟩, cB, cZ⟩ := mmF
          have HU3 : Hid (∀ w', Below wF.drew.heap.size wF.drew w' → (w'.cell? ⟨b, off + m * 7 + 6, none⟩ = some (.slice p j cc) ∧ w'.cell? ⟨gb, c', none⟩ = some (.iface 91 (.agg #[.slice pB lB kB, .string e.t, .int .i64 sn])))) := fun w' hb => ⟨(hb.cell (lt_of_cell (w := wF.drew) c6)).trans c6, (hb.cell (lt_of_cell (w := wF.drew) cB)).trans cB⟩
          have hzF : w4.heap.size ≤ wF.drew.heap.size := jF.size
          clear c0 c1 c2 c3 c4 c5' cZ
          go_wp2_with fail
          go_region_held3 (fun w' => (w'.cell? ⟨b, off + m * 7 + 6, none⟩ = some (.slice p j cc) ∧ w'.cell? ⟨gb, c', none⟩ = some (.iface 91 (.agg #[.slice pB lB kB, .string e.t, .int .i64 sn]))) ∧ Below w4.heap.size w4 w')
            (exact ⟨by first | (with_reducible assumption) | (simp [*]; done), by first | (with_reducible assumption) | exact jF.drew⟩)
            (first
              | (go_at_call 49; refine cSa.out.mono ?_; rintro r wH ⟨rfl, bH'⟩; have bH : Below wF.drew.heap.size wF.drew wH := bG.trans (bH'.mono bG.size); have jH : Below w4.heap.size w4 wH := (jF.drew).trans (bH.mono hzF); have mmH := HU3.out _ bH)
              | (go_at_call 146; refine (cAt _ ?_).mono ?_; (· first | assumption | exact jF.drew | (apply And.right; assumption)); rintro r wG ⟨vA, rfl, oA, bG⟩; obtain ⟨pA, cA, rfl⟩ := own_slice oA; have jG : Below w4.heap.size w4 wG := (jF.drew).trans (bG.mono hzF); have mmG := HU3.out _ bG; have cSa : Hid (Calls Tryd.prog 49 #[.agg #[.int .i64 0, .string ⟨#[]⟩, .int .i64 0, .int .i64 0, .string ⟨#[]⟩, .int .i64 0, .slice pA e.A.length cA], .agg #[.int .i64 0, .string ⟨#[]⟩, .int .i64 0, .int .i64 0, .string ⟨#[]⟩, .int .i64 0, .slice p j cc]] wG fun r w' => r = .returned (.bool true) ∧ Below wG.heap.size wG w') := cSA.out wG (.slice pA e.A.length cA) jG (own_RN oA); clear oA))
          have HC2 : Hid ((bearI 0 (A.take (m + 1))).length = c' + 1) := by show _ = _; rw [HE.out.2.2.2, if_neg (by rw [HK.out]; decide), List.length_append, HC.out]; rfl
          clear cAt cSa mmG mmH bG bH jG cB c6
          go_wp2
          go_roundw
          case rel => exact ⟨m + 1, c' + 1, by omega, by go_num, by go_num, by omega, HC2.out, jH⟩
          case measure => simp [RowKit.intOf]; omega
        · have hop : ∀ (W : World) (s1 : Value), RN W s1 e.A → Calls Tryd.prog 150 #[.agg #[s1, .string e.t, valP e.v]] W fun r w' => ∃ v', r = .returned (opV e v') ∧ OwnA w' W.heap.size v' e.A ∧ Below W.heap.size W w' := fun W s1 hs => opQ_2 hge h s1 W hs hAl
          have hlen : ∀ (W : World) (s1 : Value), Calls Tryd.prog 149 #[.agg #[s1, .string e.t, valP e.v]] W fun r w' => r = .returned (.int .i64 L9) ∧ Below W.heap.size W w' := fun W s1 => by
            have h9 := elen_any (valP e.v) s1 e.t W
            rw [← hL9]; unfold len5 lenO; rw [if_pos (Or.inr h), if_neg (by omega)]; exact h9
          rw [pieceQ_2 h] at cp
          obtain rfl : f = 2 := HOk.out.trans h
          have HK : Hid (e.k = 2) := h
          have HVN : Hid (valP e.v = V9) := hV9
          rw [hV9] at hop hlen cp
          have HOP : Hid _ := hop
          have HLN : Hid _ := hlen
          have HSm : Hid _ := cS
          clear h hL9 hV9 hop hlen cS
          go_wp2_with fail
          have cOp := fun W (hW : Below w4.heap.size w4 W) => HOP.out W (.slice ps ls cs) (HE.out.2.1.below hW)
          have cLn := fun W => HLN.out W (.slice ps ls cs)
          go_region_held3 (fun w' => (w'.cell? ⟨b, off + m * 7, none⟩ = some (.int .i64 2) ∧ w'.cell? ⟨b, off + m * 7 + 1, none⟩ = some (.string t) ∧ w'.cell? ⟨b, off + m * 7 + 2, none⟩ = some (.int .i64 x) ∧ w'.cell? ⟨b, off + m * 7 + 3, none⟩ = some (.int .i64 z) ∧ w'.cell? ⟨b, off + m * 7 + 4, none⟩ = some (.string u) ∧ w'.cell? ⟨b, off + m * 7 + 5, none⟩ = some (.int .i64 cc1) ∧ w'.cell? ⟨b, off + m * 7 + 6, none⟩ = some (.slice p j cc)) ∧ Below w4.heap.size w4 w')
            (exact ⟨by first | (with_reducible assumption) | (simp [*]; done), by first | (with_reducible assumption) | exact hbw.drew⟩)
            (first
              | (go_at_call 50; refine (cR _ ?_).mono ?_; (· first | assumption | (apply And.right; assumption)); rintro r wD ⟨rfl, bD'⟩; have bD : Below wr.drew.heap.size wr.drew wD := bC.trans (bD'.mono bC.size); have jD : Below w4.heap.size w4 wD := (hbw.drew).trans (bD.mono hz1); have mmD := HU.out _ bD)
              | (go_at_call 149; refine (cLn _).mono ?_; rintro r wC ⟨rfl, bC'⟩; have bC : Below wr.drew.heap.size wr.drew wC := bB.trans (bC'.mono bB.size); have jC : Below w4.heap.size w4 wC := (hbw.drew).trans (bC.mono hz1); have mmC := HU.out _ bC)
              | (go_at_call 49; refine cSa.out.mono ?_; rintro r wB ⟨rfl, bB'⟩; have bB : Below wr.drew.heap.size wr.drew wB := bA.trans (bB'.mono bA.size); have jB : Below w4.heap.size w4 wB := (hbw.drew).trans (bB.mono hz1); have mmB := HU.out _ bB)
              | (go_at_call 150; refine (cOp _ ?_).mono ?_; (· first | assumption | exact hbw.drew | (apply And.right; assumption)); rintro r wA ⟨vA, rfl, oA, bA⟩; obtain ⟨pA, cA, rfl⟩ := own_slice oA; have jA : Below w4.heap.size w4 wA := (hbw.drew).trans (bA.mono hz1); have mmA := HU.out _ bA; have cSa : Hid (Calls Tryd.prog 49 #[opV e (.slice pA e.A.length cA), .agg #[.int .i64 2, .string t, .int .i64 x, .int .i64 z, .string u, .int .i64 cc1, .slice p j cc]] wA fun r w' => r = .returned (.bool true) ∧ Below wA.heap.size wA w') := HSm.out wA (.slice pA e.A.length cA) jA (own_RN oA); clear oA))
          clear cR cOp cLn cSa mmA mmB mmC jA jB jC bA bB bC bD cp c0 c1 c2 c3 c4 c5' c6
          obtain ⟨c0, c1, c2, c3, c4, c5', c6⟩ := mmD
          obtain ⟨c', gb, gz, sb, hcc, hcb, rfl, rfl, hcB, hcZ, hrB⟩ := HW.out m e HE.out.1 (by rw [HK.out]; decide)
          obtain rfl : c' = c := hcc.symm.trans HC.out
          have cB := (jD.cell (lt_of_cell hcB)).trans hcB
          have cZ := (jD.cell (lt_of_cell hcZ)).trans hcZ
          obtain ⟨pB, lB, kB, rfl⟩ : ∃ p l c, sb = .slice p l c := by obtain ⟨p, c, h, _⟩ := hrB.row.val; exact ⟨_, _, _, h⟩
          rw [pieceQ_2 HK.out] at cB
          rw [HVN.out] at cB
          have HOP2 := HOP.out
          have cOp := fun W (hW : Below w4.heap.size w4 W) => HOP2 W (.slice pB lB kB) (hrB.below hW)
          have cAt := fun W (hW : Below w4.heap.size w4 W) => attributes_any (.slice pB lB kB) e.A W (hrB.below hW).row (hrB.below hW).nz hAl
          have cSA : Hid (∀ W v, Below w4.heap.size w4 W → RN W v e.A → Calls Tryd.prog 49 #[.agg #[.int .i64 0, .string ⟨#[]⟩, .int .i64 0, .int .i64 0, .string ⟨#[]⟩, .int .i64 0, v], .agg #[.int .i64 0, .string ⟨#[]⟩, .int .i64 0, .int .i64 0, .string ⟨#[]⟩, .int .i64 0, .slice p j cc]] W fun r w' => r = .returned (.bool true) ∧ Below W.heap.size W w') := fun W v hW hv => by
            have := sameP_any ⟨0, ⟨#[]⟩, z0, 0, e.A⟩ ⟨0, ⟨#[]⟩, z0, 0, e.A⟩ v (.slice p j cc) W hv.row (HE.out.2.2.1.below hW).row (Nat.le_trans hAl (by decide)) (Nat.le_trans hAl (by decide))
            rw [decide_eq_true rfl] at this
            exact this
          have HU2 : Hid (∀ w', Below wD.drew.heap.size wD.drew w' → ((w'.cell? ⟨b, off + m * 7, none⟩ = some (.int .i64 2) ∧ w'.cell? ⟨b, off + m * 7 + 1, none⟩ = some (.string t) ∧ w'.cell? ⟨b, off + m * 7 + 2, none⟩ = some (.int .i64 x) ∧ w'.cell? ⟨b, off + m * 7 + 3, none⟩ = some (.int .i64 z) ∧ w'.cell? ⟨b, off + m * 7 + 4, none⟩ = some (.string u) ∧ w'.cell? ⟨b, off + m * 7 + 5, none⟩ = some (.int .i64 cc1) ∧ w'.cell? ⟨b, off + m * 7 + 6, none⟩ = some (.slice p j cc)) ∧ w'.cell? ⟨gb, c', none⟩ = some (.iface 93 (.agg #[.slice pB lB kB, .string e.t, V9])) ∧ w'.cell? ⟨gz, c', none⟩ = some (.int .i64 m))) := fun w' hb => ⟨⟨(hb.cell (lt_of_cell (w := wD.drew) c0)).trans c0, (hb.cell (lt_of_cell (w := wD.drew) c1)).trans c1, (hb.cell (lt_of_cell (w := wD.drew) c2)).trans c2, (hb.cell (lt_of_cell (w := wD.drew) c3)).trans c3, (hb.cell (lt_of_cell (w := wD.drew) c4)).trans c4, (hb.cell (lt_of_cell (w := wD.drew) c5')).trans c5', (hb.cell (lt_of_cell (w := wD.drew) c6)).trans c6⟩, (hb.cell (lt_of_cell (w := wD.drew) cB)).trans cB, (hb.cell (lt_of_cell (w := wD.drew) cZ)).trans cZ⟩
          have hcI : (c' : Int) < (nb : Int) := by omega
          have hcG : decide ((nb : Int) ≤ (c' : Int)) = false := decide_eq_false (by omega)
          have hcO : (0 : Int) ≤ (c' : Int) := by omega
          have hcN : decide (nb ≤ c') = false := decide_eq_false (by omega)
          have hcM : ¬ nb ≤ c' := by omega
          have hzD : w4.heap.size ≤ wD.drew.heap.size := jD.size
          clear hcB hcZ HOP2
          go_wp2_with fail
          go_region_held3 (fun w' => ((w'.cell? ⟨b, off + m * 7, none⟩ = some (.int .i64 2) ∧ w'.cell? ⟨b, off + m * 7 + 1, none⟩ = some (.string t) ∧ w'.cell? ⟨b, off + m * 7 + 2, none⟩ = some (.int .i64 x) ∧ w'.cell? ⟨b, off + m * 7 + 3, none⟩ = some (.int .i64 z) ∧ w'.cell? ⟨b, off + m * 7 + 4, none⟩ = some (.string u) ∧ w'.cell? ⟨b, off + m * 7 + 5, none⟩ = some (.int .i64 cc1) ∧ w'.cell? ⟨b, off + m * 7 + 6, none⟩ = some (.slice p j cc)) ∧ w'.cell? ⟨gb, c', none⟩ = some (.iface 93 (.agg #[.slice pB lB kB, .string e.t, V9])) ∧ w'.cell? ⟨gz, c', none⟩ = some (.int .i64 m)) ∧ Below w4.heap.size w4 w')
            (exact ⟨by first | (with_reducible assumption) | (simp [*]; done), by first | (with_reducible assumption) | exact jD.drew⟩)
            (first
              | (go_at_call 49; refine cSa.out.mono ?_; rintro r wF ⟨rfl, bF'⟩; have bF : Below wD.drew.heap.size wD.drew wF := bE.trans (bF'.mono bE.size); have jF : Below w4.heap.size w4 wF := (jD.drew).trans (bF.mono hzD); have mmF := HU2.out _ bF)
              | (go_at_call 150; refine (cOp _ ?_).mono ?_; (· first | assumption | exact jD.drew | (apply And.right; assumption)); rintro r wE ⟨vA, rfl, oA, bE⟩; obtain ⟨pA, cA, rfl⟩ := own_slice oA; have jE : Below w4.heap.size w4 wE := (jD.drew).trans (bE.mono hzD); have mmE := HU2.out _ bE; have cSa : Hid (Calls Tryd.prog 49 #[opV e (.slice pA e.A.length cA), .agg #[.int .i64 2, .string t, .int .i64 x, .int .i64 z, .string u, .int .i64 cc1, .slice p j cc]] wE fun r w' => r = .returned (.bool true) ∧ Below wE.heap.size wE w') := HSm.out wE (.slice pA e.A.length cA) jE (own_RN oA); clear oA))
          clear cOp cSa mmE bE bF jE c0 c1 c2 c3 c4 c5' c6 cB cZ
          obtain ⟨⟨c0, c1, c2, c3, c4, c5', c6⟩, cB, cZ⟩ := mmF
          have HU3 : Hid (∀ w', Below wF.drew.heap.size wF.drew w' → (w'.cell? ⟨b, off + m * 7 + 6, none⟩ = some (.slice p j cc) ∧ w'.cell? ⟨gb, c', none⟩ = some (.iface 93 (.agg #[.slice pB lB kB, .string e.t, V9])))) := fun w' hb => ⟨(hb.cell (lt_of_cell (w := wF.drew) c6)).trans c6, (hb.cell (lt_of_cell (w := wF.drew) cB)).trans cB⟩
          have hzF : w4.heap.size ≤ wF.drew.heap.size := jF.size
          clear c0 c1 c2 c3 c4 c5' cZ
          go_wp2_with fail
          go_region_held3 (fun w' => (w'.cell? ⟨b, off + m * 7 + 6, none⟩ = some (.slice p j cc) ∧ w'.cell? ⟨gb, c', none⟩ = some (.iface 93 (.agg #[.slice pB lB kB, .string e.t, V9]))) ∧ Below w4.heap.size w4 w')
            (exact ⟨by first | (with_reducible assumption) | (simp [*]; done), by first | (with_reducible assumption) | exact jF.drew⟩)
            (first
              | (go_at_call 49; refine cSa.out.mono ?_; rintro r wH ⟨rfl, bH'⟩; have bH : Below wF.drew.heap.size wF.drew wH := bG.trans (bH'.mono bG.size); have jH : Below w4.heap.size w4 wH := (jF.drew).trans (bH.mono hzF); have mmH := HU3.out _ bH)
              | (go_at_call 146; refine (cAt _ ?_).mono ?_; (· first | assumption | exact jF.drew | (apply And.right; assumption)); rintro r wG ⟨vA, rfl, oA, bG⟩; obtain ⟨pA, cA, rfl⟩ := own_slice oA; have jG : Below w4.heap.size w4 wG := (jF.drew).trans (bG.mono hzF); have mmG := HU3.out _ bG; have cSa : Hid (Calls Tryd.prog 49 #[.agg #[.int .i64 0, .string ⟨#[]⟩, .int .i64 0, .int .i64 0, .string ⟨#[]⟩, .int .i64 0, .slice pA e.A.length cA], .agg #[.int .i64 0, .string ⟨#[]⟩, .int .i64 0, .int .i64 0, .string ⟨#[]⟩, .int .i64 0, .slice p j cc]] wG fun r w' => r = .returned (.bool true) ∧ Below wG.heap.size wG w') := cSA.out wG (.slice pA e.A.length cA) jG (own_RN oA); clear oA))
          have HC2 : Hid ((bearI 0 (A.take (m + 1))).length = c' + 1) := by show _ = _; rw [HE.out.2.2.2, if_neg (by rw [HK.out]; decide), List.length_append, HC.out]; rfl
          clear cAt cSa mmG mmH bG bH jG cB c6
          go_wp2
          go_roundw
          case rel => exact ⟨m + 1, c' + 1, by omega, by go_num, by go_num, by omega, HC2.out, jH⟩
          case measure => simp [RowKit.intOf]; omega
        · have hop : ∀ (W : World) (s1 : Value), RN W s1 e.A → Calls Tryd.prog 152 #[.agg #[s1, .int .i64 e.c]] W fun r w' => ∃ v', r = .returned (opV e v') ∧ OwnA w' W.heap.size v' e.A ∧ Below W.heap.size W w' := fun W s1 hs => opQ_3 hge h s1 W hs hAl
          have hlen : ∀ (W : World) (s1 : Value), Calls Tryd.prog 151 #[.agg #[s1, .int .i64 e.c]] W fun r w' => r = .returned (.int .i64 L9) ∧ Below W.heap.size W w' := fun W s1 => by
            have h9 := rlen_any s1 e.c W
            rw [← hL9]; unfold len5; rw [if_neg (by omega)]; exact h9
          rw [pieceQ_3 h] at cp
          obtain rfl : f = 3 := HOk.out.trans h
          have HK : Hid (e.k = 3) := h
          have HOP : Hid _ := hop
          have HLN : Hid _ := hlen
          have HSm : Hid _ := cS
          clear h hL9 hV9 hop hlen cS
          go_wp2_with fail
          have cOp := fun W (hW : Below w4.heap.size w4 W) => HOP.out W (.slice ps ls cs) (HE.out.2.1.below hW)
          have cLn := fun W => HLN.out W (.slice ps ls cs)
          go_region_held3 (fun w' => (w'.cell? ⟨b, off + m * 7, none⟩ = some (.int .i64 3) ∧ w'.cell? ⟨b, off + m * 7 + 1, none⟩ = some (.string t) ∧ w'.cell? ⟨b, off + m * 7 + 2, none⟩ = some (.int .i64 x) ∧ w'.cell? ⟨b, off + m * 7 + 3, none⟩ = some (.int .i64 z) ∧ w'.cell? ⟨b, off + m * 7 + 4, none⟩ = some (.string u) ∧ w'.cell? ⟨b, off + m * 7 + 5, none⟩ = some (.int .i64 cc1) ∧ w'.cell? ⟨b, off + m * 7 + 6, none⟩ = some (.slice p j cc)) ∧ Below w4.heap.size w4 w')
            (exact ⟨by first | (with_reducible assumption) | (simp [*]; done), by first | (with_reducible assumption) | exact hbw.drew⟩)
            (first
              | (go_at_call 50; refine (cR _ ?_).mono ?_; (· first | assumption | (apply And.right; assumption)); rintro r wD ⟨rfl, bD'⟩; have bD : Below wr.drew.heap.size wr.drew wD := bC.trans (bD'.mono bC.size); have jD : Below w4.heap.size w4 wD := (hbw.drew).trans (bD.mono hz1); have mmD := HU.out _ bD)
              | (go_at_call 151; refine (cLn _).mono ?_; rintro r wC ⟨rfl, bC'⟩; have bC : Below wr.drew.heap.size wr.drew wC := bB.trans (bC'.mono bB.size); have jC : Below w4.heap.size w4 wC := (hbw.drew).trans (bC.mono hz1); have mmC := HU.out _ bC)
              | (go_at_call 49; refine cSa.out.mono ?_; rintro r wB ⟨rfl, bB'⟩; have bB : Below wr.drew.heap.size wr.drew wB := bA.trans (bB'.mono bA.size); have jB : Below w4.heap.size w4 wB := (hbw.drew).trans (bB.mono hz1); have mmB := HU.out _ bB)
              | (go_at_call 152; refine (cOp _ ?_).mono ?_; (· first | assumption | exact hbw.drew | (apply And.right; assumption)); rintro r wA ⟨vA, rfl, oA, bA⟩; obtain ⟨pA, cA, rfl⟩ := own_slice oA; have jA : Below w4.heap.size w4 wA := (hbw.drew).trans (bA.mono hz1); have mmA := HU.out _ bA; have cSa : Hid (Calls Tryd.prog 49 #[opV e (.slice pA e.A.length cA), .agg #[.int .i64 3, .string t, .int .i64 x, .int .i64 z, .string u, .int .i64 cc1, .slice p j cc]] wA fun r w' => r = .returned (.bool true) ∧ Below wA.heap.size wA w') := HSm.out wA (.slice pA e.A.length cA) jA (own_RN oA); clear oA))
          clear cR cOp cLn cSa mmA mmB mmC jA jB jC bA bB bC bD cp c0 c1 c2 c3 c4 c5' c6
          obtain ⟨c0, c1, c2, c3, c4, c5', c6⟩ := mmD
          obtain ⟨c', gb, gz, sb, hcc, hcb, rfl, rfl, hcB, hcZ, hrB⟩ := HW.out m e HE.out.1 (by rw [HK.out]; decide)
          obtain rfl : c' = c := hcc.symm.trans HC.out
          have cB := (jD.cell (lt_of_cell hcB)).trans hcB
          have cZ := (jD.cell (lt_of_cell hcZ)).trans hcZ
          obtain ⟨pB, lB, kB, rfl⟩ : ∃ p l c, sb = .slice p l c := by obtain ⟨p, c, h, _⟩ := hrB.row.val; exact ⟨_, _, _, h⟩
          rw [pieceQ_3 HK.out] at cB
          have HOP2 := HOP.out
          have cOp := fun W (hW : Below w4.heap.size w4 W) => HOP2 W (.slice pB lB kB) (hrB.below hW)
          have cAt := fun W (hW : Below w4.heap.size w4 W) => attributes_any (.slice pB lB kB) e.A W (hrB.below hW).row (hrB.below hW).nz hAl
          have cSA : Hid (∀ W v, Below w4.heap.size w4 W → RN W v e.A → Calls Tryd.prog 49 #[.agg #[.int .i64 0, .string ⟨#[]⟩, .int .i64 0, .int .i64 0, .string ⟨#[]⟩, .int .i64 0, v], .agg #[.int .i64 0, .string ⟨#[]⟩, .int .i64 0, .int .i64 0, .string ⟨#[]⟩, .int .i64 0, .slice p j cc]] W fun r w' => r = .returned (.bool true) ∧ Below W.heap.size W w') := fun W v hW hv => by
            have := sameP_any ⟨0, ⟨#[]⟩, z0, 0, e.A⟩ ⟨0, ⟨#[]⟩, z0, 0, e.A⟩ v (.slice p j cc) W hv.row (HE.out.2.2.1.below hW).row (Nat.le_trans hAl (by decide)) (Nat.le_trans hAl (by decide))
            rw [decide_eq_true rfl] at this
            exact this
          have HU2 : Hid (∀ w', Below wD.drew.heap.size wD.drew w' → ((w'.cell? ⟨b, off + m * 7, none⟩ = some (.int .i64 3) ∧ w'.cell? ⟨b, off + m * 7 + 1, none⟩ = some (.string t) ∧ w'.cell? ⟨b, off + m * 7 + 2, none⟩ = some (.int .i64 x) ∧ w'.cell? ⟨b, off + m * 7 + 3, none⟩ = some (.int .i64 z) ∧ w'.cell? ⟨b, off + m * 7 + 4, none⟩ = some (.string u) ∧ w'.cell? ⟨b, off + m * 7 + 5, none⟩ = some (.int .i64 cc1) ∧ w'.cell? ⟨b, off + m * 7 + 6, none⟩ = some (.slice p j cc)) ∧ w'.cell? ⟨gb, c', none⟩ = some (.iface 96 (.agg #[.slice pB lB kB, .int .i64 e.c])) ∧ w'.cell? ⟨gz, c', none⟩ = some (.int .i64 m))) := fun w' hb => ⟨⟨(hb.cell (lt_of_cell (w := wD.drew) c0)).trans c0, (hb.cell (lt_of_cell (w := wD.drew) c1)).trans c1, (hb.cell (lt_of_cell (w := wD.drew) c2)).trans c2, (hb.cell (lt_of_cell (w := wD.drew) c3)).trans c3, (hb.cell (lt_of_cell (w := wD.drew) c4)).trans c4, (hb.cell (lt_of_cell (w := wD.drew) c5')).trans c5', (hb.cell (lt_of_cell (w := wD.drew) c6)).trans c6⟩, (hb.cell (lt_of_cell (w := wD.drew) cB)).trans cB, (hb.cell (lt_of_cell (w := wD.drew) cZ)).trans cZ⟩
          have hcI : (c' : Int) < (nb : Int) := by omega
          have hcG : decide ((nb : Int) ≤ (c' : Int)) = false := decide_eq_false (by omega)
          have hcO : (0 : Int) ≤ (c' : Int) := by omega
          have hcN : decide (nb ≤ c') = false := decide_eq_false (by omega)
          have hcM : ¬ nb ≤ c' := by omega
          have hzD : w4.heap.size ≤ wD.drew.heap.size := jD.size
          clear hcB hcZ HOP2
          go_wp2_with fail
          go_region_held3 (fun w' => ((w'.cell? ⟨b, off + m * 7, none⟩ = some (.int .i64 3) ∧ w'.cell? ⟨b, off + m * 7 + 1, none⟩ = some (.string t) ∧ w'.cell? ⟨b, off + m * 7 + 2, none⟩ = some (.int .i64 x) ∧ w'.cell? ⟨b, off + m * 7 + 3, none⟩ = some (.int .i64 z) ∧ w'.cell? ⟨b, off + m * 7 + 4, none⟩ = some (.string u) ∧ w'.cell? ⟨b, off + m * 7 + 5, none⟩ = some (.int .i64 cc1) ∧ w'.cell? ⟨b, off + m * 7 + 6, none⟩ = some (.slice p j cc)) ∧ w'.cell? ⟨gb, c', none⟩ = some (.iface 96 (.agg #[.slice pB lB kB, .int .i64 e.c])) ∧ w'.cell? ⟨gz, c', none⟩ = some (.int .i64 m)) ∧ Below w4.heap.size w4 w')
            (exact ⟨by first | (with_reducible assumption) | (simp [*]; done), by first | (with_reducible assumption) | exact jD.drew⟩)
            (first
              | (go_at_call 49; refine cSa.out.mono ?_; rintro r wF ⟨rfl, bF'⟩; have bF : Below wD.drew.heap.size wD.drew wF := bE.trans (bF'.mono bE.size); have jF : Below w4.heap.size w4 wF := (jD.drew).trans (bF.mono hzD); have mmF := HU2.out _ bF)
              | (go_at_call 152; refine (cOp _ ?_).mono ?_; (· first | assumption | exact jD.drew | (apply And.right; assumption)); rintro r wE ⟨vA, rfl, oA, bE⟩; obtain ⟨pA, cA, rfl⟩ := own_slice oA; have jE : Below w4.heap.size w4 wE := (jD.drew).trans (bE.mono hzD); have mmE := HU2.out _ bE; have cSa : Hid (Calls Tryd.prog 49 #[opV e (.slice pA e.A.length cA), .agg #[.int .i64 3, .string t, .int .i64 x, .int .i64 z, .string u, .int .i64 cc1, .slice p j cc]] wE fun r w' => r = .returned (.bool true) ∧ Below wE.heap.size wE w') := HSm.out wE (.slice pA e.A.length cA) jE (own_RN oA); clear oA))
          clear cOp cSa mmE bE bF jE c0 c1 c2 c3 c4 c5' c6 cB cZ
          obtain ⟨⟨c0, c1, c2, c3, c4, c5', c6⟩, cB, cZ⟩ := mmF
          have HU3 : Hid (∀ w', Below wF.drew.heap.size wF.drew w' → (w'.cell? ⟨b, off + m * 7 + 6, none⟩ = some (.slice p j cc) ∧ w'.cell? ⟨gb, c', none⟩ = some (.iface 96 (.agg #[.slice pB lB kB, .int .i64 e.c])))) := fun w' hb => ⟨(hb.cell (lt_of_cell (w := wF.drew) c6)).trans c6, (hb.cell (lt_of_cell (w := wF.drew) cB)).trans cB⟩
          have hzF : w4.heap.size ≤ wF.drew.heap.size := jF.size
          clear c0 c1 c2 c3 c4 c5' cZ
          go_wp2_with fail
          go_region_held3 (fun w' => (w'.cell? ⟨b, off + m * 7 + 6, none⟩ = some (.slice p j cc) ∧ w'.cell? ⟨gb, c', none⟩ = some (.iface 96 (.agg #[.slice pB lB kB, .int .i64 e.c]))) ∧ Below w4.heap.size w4 w')
            (exact ⟨by first | (with_reducible assumption) | (simp [*]; done), by first | (with_reducible assumption) | exact jF.drew⟩)
            (first
              | (go_at_call 49; refine cSa.out.mono ?_; rintro r wH ⟨rfl, bH'⟩; have bH : Below wF.drew.heap.size wF.drew wH := bG.trans (bH'.mono bG.size); have jH : Below w4.heap.size w4 wH := (jF.drew).trans (bH.mono hzF); have mmH := HU3.out _ bH)
              | (go_at_call 146; refine (cAt _ ?_).mono ?_; (· first | assumption | exact jF.drew | (apply And.right; assumption)); rintro r wG ⟨vA, rfl, oA, bG⟩; obtain ⟨pA, cA, rfl⟩ := own_slice oA; have jG : Below w4.heap.size w4 wG := (jF.drew).trans (bG.mono hzF); have mmG := HU3.out _ bG; have cSa : Hid (Calls Tryd.prog 49 #[.agg #[.int .i64 0, .string ⟨#[]⟩, .int .i64 0, .int .i64 0, .string ⟨#[]⟩, .int .i64 0, .slice pA e.A.length cA], .agg #[.int .i64 0, .string ⟨#[]⟩, .int .i64 0, .int .i64 0, .string ⟨#[]⟩, .int .i64 0, .slice p j cc]] wG fun r w' => r = .returned (.bool true) ∧ Below wG.heap.size wG w') := cSA.out wG (.slice pA e.A.length cA) jG (own_RN oA); clear oA))
          have HC2 : Hid ((bearI 0 (A.take (m + 1))).length = c' + 1) := by show _ = _; rw [HE.out.2.2.2, if_neg (by rw [HK.out]; decide), List.length_append, HC.out]; rfl
          clear cAt cSa mmG mmH bG bH jG cB c6
          go_wp2
          go_roundw
          case rel => exact ⟨m + 1, c' + 1, by omega, by go_num, by go_num, by omega, HC2.out, jH⟩
          case measure => simp [RowKit.intOf]; omega
        · have hop : ∀ (W : World) (s1 : Value), RN W s1 e.A → Calls Tryd.prog 154 #[.agg #[.int .i64 e.c]] W fun r w' => ∃ v', r = .returned (opV e v') ∧ OwnA w' W.heap.size v' e.A ∧ Below W.heap.size W w' := fun W s1 hs => opQ_4 hge h W
          have hlen : ∀ (W : World) (s1 : Value), Calls Tryd.prog 153 #[.agg #[.int .i64 e.c]] W fun r w' => r = .returned (.int .i64 L9) ∧ Below W.heap.size W w' := fun W s1 => by
            have h9 := dlen_any e.c W
            rw [← hL9]; unfold len5; rw [if_neg (by omega)]; exact h9
          rw [pieceQ_4 h] at cp
          obtain rfl : f = 4 := HOk.out.trans h
          have HK : Hid (e.k = 4) := h
          have HOP : Hid _ := hop
          have HLN : Hid _ := hlen
          have HSm : Hid _ := cS
          clear h hL9 hV9 hop hlen cS
          go_wp2_with fail
          have cOp := fun W (hW : Below w4.heap.size w4 W) => HOP.out W (.slice ps ls cs) (HE.out.2.1.below hW)
          have cLn := fun W => HLN.out W (.slice ps ls cs)
          go_region_held3 (fun w' => (w'.cell? ⟨b, off + m * 7, none⟩ = some (.int .i64 4) ∧ w'.cell? ⟨b, off + m * 7 + 1, none⟩ = some (.string t) ∧ w'.cell? ⟨b, off + m * 7 + 2, none⟩ = some (.int .i64 x) ∧ w'.cell? ⟨b, off + m * 7 + 3, none⟩ = some (.int .i64 z) ∧ w'.cell? ⟨b, off + m * 7 + 4, none⟩ = some (.string u) ∧ w'.cell? ⟨b, off + m * 7 + 5, none⟩ = some (.int .i64 cc1) ∧ w'.cell? ⟨b, off + m * 7 + 6, none⟩ = some (.slice p j cc)) ∧ Below w4.heap.size w4 w')
            (exact ⟨by first | (with_reducible assumption) | (simp [*]; done), by first | (with_reducible assumption) | exact hbw.drew⟩)
            (first
              | (go_at_call 50; refine (cR _ ?_).mono ?_; (· first | assumption | (apply And.right; assumption)); rintro r wD ⟨rfl, bD'⟩; have bD : Below wr.drew.heap.size wr.drew wD := bC.trans (bD'.mono bC.size); have jD : Below w4.heap.size w4 wD := (hbw.drew).trans (bD.mono hz1); have mmD := HU.out _ bD)
              | (go_at_call 153; refine (cLn _).mono ?_; rintro r wC ⟨rfl, bC'⟩; have bC : Below wr.drew.heap.size wr.drew wC := bB.trans (bC'.mono bB.size); have jC : Below w4.heap.size w4 wC := (hbw.drew).trans (bC.mono hz1); have mmC := HU.out _ bC)
              | (go_at_call 49; refine cSa.out.mono ?_; rintro r wB ⟨rfl, bB'⟩; have bB : Below wr.drew.heap.size wr.drew wB := bA.trans (bB'.mono bA.size); have jB : Below w4.heap.size w4 wB := (hbw.drew).trans (bB.mono hz1); have mmB := HU.out _ bB)
              | (go_at_call 154; refine (cOp _ ?_).mono ?_; (· first | assumption | exact hbw.drew | (apply And.right; assumption)); rintro r wA ⟨vA, rfl, oA, bA⟩; obtain ⟨pA, cA, rfl⟩ := own_slice oA; have jA : Below w4.heap.size w4 wA := (hbw.drew).trans (bA.mono hz1); have mmA := HU.out _ bA; have cSa : Hid (Calls Tryd.prog 49 #[opV e (.slice pA e.A.length cA), .agg #[.int .i64 4, .string t, .int .i64 x, .int .i64 z, .string u, .int .i64 cc1, .slice p j cc]] wA fun r w' => r = .returned (.bool true) ∧ Below wA.heap.size wA w') := HSm.out wA (.slice pA e.A.length cA) jA (own_RN oA); clear oA))
          clear cR cOp cLn cSa mmA mmB mmC jA jB jC bA bB bC bD cp c0 c1 c2 c3 c4 c5' c6
          obtain ⟨c0, c1, c2, c3, c4, c5', c6⟩ := mmD
          have HC2 : Hid ((bearI 0 (A.take (m + 1))).length = c) := by show _ = _; rw [HE.out.2.2.2, if_pos HK.out, List.append_nil]; exact HC.out
          go_wp2
          go_roundw
          case rel => exact ⟨m + 1, c, by omega, by go_num, rfl, hcn, HC2.out, jD⟩
          case measure => simp [RowKit.intOf]; omega
      · have hltI : ¬ (m : Int) < n := by omega
        obtain rfl : c = nb := by
          have := HC.out
          rw [List.take_of_length_le (by rw [HN.out]; omega)] at this
          exact this.symm.trans HCn.out
        have b9 := HB4.out.trans (hbw.mono HB4.out.size)
        go_wp2
        go_ret
        exact ⟨rfl, b9⟩
end Go.Proofs.YtkgflmbhkbeakaaDoor
