/- The document's deltas: Long. vellumlaw06.canonical: of a canonical list it answers true. vellumlaw06.came: the cells of an insert. What vellumref03.Has answers: the first pair of a key. What vellumref03.whole, Over and Between answer. What vellumref03.Join answers of two patches: the one over the other. The document's answers of the attrs' calls as joins. What vellumref03.Between answers. What vellumref03.Compose, Apply, Diff, Invert and Transform answer. vellumlaw06.edited: cells, edited by operations. vellumlaw06.edited: the walk. What a canonical list's attributes are; how much an edit makes. vellumlaw06.alike: of cells that are the same. Of all lists of operations and cells vellumlaw06.BuildCanon answers true. -/
import Derived.Test.YtfllomfjhkgaoaaGreatDoorMge
import Derived.Test.YtfllomfjhkgaoaaGreatDoorMgb
import Derived.Test.YtfllomfjhkgaoaaGreatDoorAx
import Derived.Deep.DeepCutAuto
import Derived.Test.YtfllomfjhkgaoaaGreatDoorMgc
import Derived.Deep.RegionHeld3

/- The document's deltas: Long. -/
namespace Go.Proofs.YtfllomfjhkgaoaaGreatDoor
open Go Go.RowKit Go.Lib
set_option linter.unusedVariables false

set_option maxHeartbeats 4000000 in
theorem long6_any {w0 : World} (va : Value) (D0 : List OV) (E : List Op5) (w : World) (hb0 : Below w0.heap.size w0 w) (hrow : RowO w va D0) (hre : ReD w0 D0 E) (hg : ∀ o ∈ E, opE o = 0) (hF : FitL E) (hl : E.length ≤ 2097152) :
    Calls Tryz.prog 51 #[va] w fun r w' => r = .returned (.bool (decide (1099511627776 < sumB E ∨ 1099511627776 < sumR E))) ∧ Below w.heap.size w w' := by
  have c1 := lens6_any va D0 E w hb0 hrow hre hg hF hl
  have hs := sums_nn (E := E) (fun o ho => wel_of (hg o ho))
  obtain ⟨b, hb⟩ : ∃ x, sumB E = x := ⟨_, rfl⟩
  obtain ⟨r, hr⟩ : ∃ x, sumR E = x := ⟨_, rfl⟩
  rw [hb, hr] at c1 hs ⊢
  have e1 := cap_neg hs.1
  have e2 := cap_neg hs.2
  have hd : decide (1099511627776 < b ∨ 1099511627776 < r) = (decide (capM b < 0) || decide (capM r < 0)) := by rw [e1, e2]; simp [Bool.decide_or]
  rw [hd]
  obtain ⟨p, cap, rfl, _⟩ := hrow
  obtain ⟨x, hx⟩ : ∃ x, capM b = x := ⟨_, rfl⟩
  obtain ⟨y, hy⟩ : ∃ y, capM r = y := ⟨_, rfl⟩
  rw [hx, hy] at c1 ⊢
  clear hb hr hs e1 e2 hd hx hy hre hg hF hl hb0
  by_cases h : x < 0
  · rw [decide_eq_true h, Bool.true_or]
    go_enter Tryz.func51, Tryz.ntmps51
    go_wp2_with fail
    refine c1.mono ?_; rintro r w1 ⟨rfl, hb1⟩
    clear c1
    go_wp2
    go_ret
    exact ⟨rfl, hb1⟩
  · rw [decide_eq_false h, Bool.false_or]
    go_enter Tryz.func51, Tryz.ntmps51
    go_wp2_with fail
    refine c1.mono ?_; rintro r w1 ⟨rfl, hb1⟩
    clear c1
    go_wp2
    go_ret
    exact ⟨by simp; omega, hb1⟩
end Go.Proofs.YtfllomfjhkgaoaaGreatDoor

/- vellumlaw06.canonical: of a canonical list it answers true. -/
namespace Go.Proofs.YtfllomfjhkgaoaaGreatDoor
open Go Go.RowKit Go.Lib
set_option linter.unusedVariables false

theorem chain_at {E : List Op5} {k : Nat} {x y : Op5} (hc : chainB E = true) (h1 : E[k]? = some x) (h2 : E[k + 1]? = some y) : apartB x y = true := chain_iff.1 hc k x y h1 h2
theorem last_at {E : List Op5} {k : Nat} {x : Op5} (hl : lastP E = true) (h : E[k]? = some x) (hk : k + 1 = E.length) : plainR x = false := by
  unfold lastP at hl
  have : E.getLast? = some x := by rw [List.getLast?_eq_getElem?, show E.length - 1 = k by omega]; exact h
  rw [this] at hl
  simpa using hl
set_option maxHeartbeats 16000000 in
set_option maxRecDepth 100000 in
theorem canonLaw_any {I : List Nat} {a : Nat → Addr} (va : Value) (E : List Op5) (w : World) (hS : Std I a w) (rv : ReO w va E) (ok : OkE E) (hch : chainB E = true) (hla : lastP E = true) (hl : E.length ≤ 1048576) :
    Calls Tryz.prog 24 #[va] w fun r w' => r = .returned (.bool true) ∧ Below w.heap.size w w' := by
  obtain ⟨D0, hrow, hre⟩ := rv
  have hF := ok.fitL
  have CLg : Hid (∀ W, Below w.heap.size w W → Calls Tryz.prog 51 #[va] W fun r w' => r = .returned (.bool false) ∧ Below W.heap.size W w') := fun W hW => by
    have := long6_any (w0 := w) va D0 E W hW (hrow.below hW) hre ok.good hF (by omega)
    rwa [decide_eq_false (by have := ok.base; have := ok.res; omega)] at this
  have CC : Hid (∀ (o : Op5) (s : Value) (W W2 : World), Below w.heap.size w W → Below W.heap.size W W2 → RN w s o.A → Fit o → Calls Tryz.prog 33 #[opV o s] W2 fun r w' => r = .returned (.int .i64 (opE o)) ∧ Below W2.heap.size W2 w') := fun o s W W2 hW hW2 hR hf => refCheckO_any o s W2 ((hS.below hW).below hW2) ((hR.below hW).below hW2) hf
  have hDE := forall2_len hre
  obtain ⟨n, hn⟩ : ∃ n, E.length = n := ⟨_, rfl⟩
  obtain ⟨p, cap, rfl, hcap, hnz, hc⟩ := hrow
  have HR : Hid (∀ k, k < n → ∃ (e : Op5) (b off : Nat) (sp : Option Addr) (sl sc : Nat), E[k]? = some e ∧ p = some ⟨b, off, none⟩ ∧ OpAt w b (off + k * 7) (e.k, e.t, e.v, e.c, (sp, sl, sc)) ∧ RN w (.slice sp sl sc) e.A) := fun k hk => by
    obtain ⟨d, hd⟩ : ∃ d, D0[k]? = some d := ⟨_, List.getElem?_eq_getElem (by omega)⟩
    obtain ⟨e, he, h1, h2, h3, h4, h5⟩ := forall2_get hre k d hd
    obtain ⟨b, off, hp, hat⟩ := hc k d hd
    obtain ⟨dk, dt, dv, dc, sp, sl, sc⟩ := d
    simp only at h1 h2 h3 h4
    subst h1; subst h2; subst h3; subst h4
    exact ⟨e, b, off, sp, sl, sc, he, hp, hat, h5⟩
  have HN : Hid (E.length = n ∧ OkE E ∧ FitL E ∧ chainB E = true ∧ lastP E = true) := ⟨hn, ok, hF, hch, hla⟩
  have hnl : n ≤ 1048576 := by omega
  rw [hDE, hn] at hcap CLg ⊢
  clear hc hDE hre hnz hn hF hS hl ok hch hla
  go_enter Tryz.func24, Tryz.ntmps24
  go_wp2
  go_loopw [9] (fun i wr => ∃ (k : Nat), k ≤ n ∧ i = .int .i64 k ∧ Below w.heap.size w wr) (fun i _ => n - (RowKit.intOf i).toNat)
  case atStart => exact ⟨0, Nat.zero_le _, rfl, Below.refl _ _⟩
  case round =>
    obtain ⟨k, hk, rfl, hbw⟩ := hrel
    by_cases hlt : k < n
    · have hltI : (k : Int) < n := by omega
      have hk0 : (0 : Int) ≤ (k : Int) := by omega
      obtain ⟨e, b, off, sp, sl, sc, he, rfl, hat, hrn⟩ := HR.out k hlt
      have hem := List.mem_of_getElem? he
      have hfe := HN.out.2.2.1 e hem
      have hz := HN.out.2.1.good e hem
      obtain ⟨c0, c1, c2, c3, c4, c5, c6⟩ := hat.below hbw
      have bw : Below wr.heap.size wr (wr.alloc (.cells (opC e (.slice sp sl sc)) 48)) := (Below.refl _ _).alloc (Nat.le_refl _) _
      have cC := CC.out e (.slice sp sl sc) wr _ hbw bw hrn hfe
      rw [hz] at cC
      have HX : Hid (∀ W, Below (wr.alloc (.cells (opC e (.slice sp sl sc)) 48)).heap.size (wr.alloc (.cells (opC e (.slice sp sl sc)) 48)) W → OpAt W wr.heap.size 0 (e.k, e.t, e.v, e.c, (sp, sl, sc)) ∧ Below w.heap.size w W) := fun W hW => ⟨OpAt.below (w := wr.alloc (.cells (opC e (.slice sp sl sc)) 48)) ⟨by simp [opC], by simp [opC], by simp [opC], by simp [opC], by simp [opC], by simp [opC], by simp [opC, slV]⟩ hW, hbw.trans ((bw.trans (hW.mono bw.size)).mono hbw.size)⟩
      have hsl : sl = e.A.length := by
        obtain ⟨q, cc, e1, _⟩ := hrn.row
        simp only [Value.slice.injEq] at e1
        exact e1.2.1
      by_cases hlast : k + 1 = n
      · have hlI : (((k : Int) + 1) == (n : Int)) = true := by rw [beq_iff_eq]; omega
        have hp := last_at HN.out.2.2.2.2 he (by rw [HN.out.1]; exact hlast)
        have cP := fun W => plain6_any e sp sl sc W hsl
        rw [hp] at cP
        clear hz hem hat hrn bw HR CC hfe he hsl hp
        obtain ⟨kk, t, ⟨xx, nn, u⟩, cc, A⟩ := e
        simp only [opC, slV] at c0 c1 c2 c3 c4 c5 c6 cC cP HX
        go_wp2_with fail
        refine cC.mono ?_; rintro r w1 ⟨rfl, hw1⟩
        obtain ⟨⟨d0, d1, d2, d3, d4, d5, d6⟩, b1⟩ := HX.out w1 hw1
        simp only [Nat.zero_add, slV] at d0 d1 d2 d3 d4 d5 d6
        have cp := cP w1
        clear cC cP c0 c1 c2 c3 c4 c5 c6 hw1 HX
        go_wp2_with fail
        refine cp.mono ?_; rintro r w2 ⟨rfl, hw2⟩
        have b2 := b1.trans (hw2.mono b1.size)
        have cl := CLg.out w2 b2
        clear cp b1 hw2 CLg d0 d1 d2 d3 d4 d5 d6
        go_wp2_with fail
        refine cl.mono ?_; rintro r w3 ⟨rfl, hw3⟩
        have b3 := b2.trans (hw3.mono b2.size)
        clear cl b2 hw3
        go_wp2
        go_ret
        exact ⟨rfl, b3⟩
      · have hlI : (((k : Int) + 1) == (n : Int)) = false := by rw [beq_eq_false_iff_ne]; omega
        have hk1 : (k : Int) + 1 < n := by omega
        have hk10 : (0 : Int) ≤ (k : Int) + 1 := by omega
        have hk1n : ((k : Int) + 1).toNat = k + 1 := by omega
        obtain ⟨e', b', off', sp', sl', sc', he', hp', hat', hrn'⟩ := HR.out (k + 1) (by omega)
        cases hp'
        have hap := chain_at HN.out.2.2.2.1 he he'
        have hz' := HN.out.2.1.good e' (List.mem_of_getElem? he')
        have hfe' := HN.out.2.2.1 e' (List.mem_of_getElem? he')
        have hkk := kinds_of hz
        have hkk' := kinds_of hz'
        have HY : Hid (∀ W, Below w.heap.size w W → OpAt W b (off + (k + 1) * 7) (e'.k, e'.t, e'.v, e'.c, (sp', sl', sc'))) := fun W hW => hat'.below hW
        have cSm : Hid (∀ W, Below w.heap.size w W → Calls Tryz.prog 52 #[.slice sp sl sc, .slice sp' sl' sc'] W fun r w' => r = .returned (.bool (decide (e.A = e'.A))) ∧ Below W.heap.size W w') := fun W hW => refSame_any _ _ e.A e'.A W (hrn.below hW).row (hrn'.below hW).row (by have := hfe.n; omega) (by have := hfe'.n; omega)
        have cI := fun W => ins6_any e' sp' sl' sc' W
        obtain ⟨q, hq⟩ : ∃ q, decide (e.A = e'.A) = q := ⟨_, rfl⟩
        unfold apartB at hap
        rw [hq] at hap cSm
        clear hz hem hat hrn bw HR CC hfe he hsl hz' hfe' he' hat' hrn' hq
        obtain ⟨kk, t, ⟨xx, nn, u⟩, cc, A⟩ := e
        obtain ⟨kk', t', ⟨xx', nn', u'⟩, cc', A'⟩ := e'
        simp only [opC, slV] at c0 c1 c2 c3 c4 c5 c6 cC HX HY cI hap hkk hkk'
        go_wp2_with fail
        refine cC.mono ?_; rintro r w1 ⟨rfl, hw1⟩
        obtain ⟨⟨d0, d1, d2, d3, d4, d5, d6⟩, b1⟩ := HX.out w1 hw1
        obtain ⟨e0, e1, e2, e3, e4, e5, e6⟩ := HY.out w1 b1
        simp only [Nat.zero_add, slV] at d0 d1 d2 d3 d4 d5 d6 e0 e1 e2 e3 e4 e5 e6
        have hd : wr.heap.size < w1.heap.size := lt_of_cell d0
        have hne : ¬ wr.heap.size = w1.heap.size := by omega
        have hne2 : ¬ w1.heap.size = wr.heap.size := by omega
        have ba : Below w1.heap.size w1 (w1.alloc (.cells #[.int .i64 kk', .string t', .int .i64 xx', .int .i64 nn', .string u', .int .i64 cc', .slice sp' sl' sc'] 48)) := (Below.refl _ _).alloc (Nat.le_refl _) _
        have b1a := b1.trans (ba.mono b1.size)
        have cs := cSm.out _ b1a
        have HZ : Hid (∀ W, Below (w1.alloc (.cells #[.int .i64 kk', .string t', .int .i64 xx', .int .i64 nn', .string u', .int .i64 cc', .slice sp' sl' sc'] 48)).heap.size (w1.alloc (.cells #[.int .i64 kk', .string t', .int .i64 xx', .int .i64 nn', .string u', .int .i64 cc', .slice sp' sl' sc'] 48)) W → OpAt W w1.heap.size 0 (kk', t', (xx', nn', u'), cc', (sp', sl', sc')) ∧ W.cell? ⟨wr.heap.size, 0, none⟩ = some (.int .i64 kk) ∧ Below w.heap.size w W) := fun W hW => ⟨OpAt.below (w := w1.alloc (.cells #[.int .i64 kk', .string t', .int .i64 xx', .int .i64 nn', .string u', .int .i64 cc', .slice sp' sl' sc'] 48)) ⟨by simp, by simp, by simp, by simp, by simp, by simp, by simp [slV]⟩ hW, ((ba.trans (hW.mono ba.size)).cell hd).trans d0, b1a.trans (hW.mono b1a.size)⟩
        clear cC c0 c1 c2 c3 c4 c5 c6 hw1 HX HY cSm ba b1a
        go_wp2_with fail
        refine cs.mono ?_; rintro r w2 ⟨rfl, hw2⟩
        obtain ⟨⟨f0, f1, f2, f3, f4, f5, f6⟩, g0, b2⟩ := HZ.out w2 hw2
        simp only [Nat.zero_add, slV] at f0 f1 f2 f3 f4 f5 f6
        have ci := cI w2
        have HB2 := Hid.mk' b2
        clear cs d0 d1 d2 d3 d4 d5 d6 e0 e1 e2 e3 e4 e5 e6 hw2 HZ cI b1 b2
        by_cases h4 : kk = 4
        · subst h4
          have h3 : kk' = 3 := by simpa using hap
          subst h3
          rw [decide_eq_false (by omega)] at ci
          clear hap
          go_wp2_with fail
          refine ci.mono ?_; rintro r w3 ⟨rfl, hw3⟩
          replace f0 := (hw3.cell (lt_of_cell f0)).trans f0
          replace g0 := (hw3.cell (lt_of_cell g0)).trans g0
          have HB3 : Hid (Below w.heap.size w w3) := HB2.out.trans (hw3.mono HB2.out.size)
          clear ci hw3 f1 f2 f3 f4 f5 f6 HB2
          go_wp2
          go_roundw
          case rel => exact ⟨k + 1, by omega, by go_num, HB3.out⟩
          case measure => simp [RowKit.intOf]; omega
        · have h4b : (kk == 4) = false := by simpa using h4
          rw [if_neg h4] at hap
          clear ci f1 f2 f3 f4 f5 f6
          by_cases hkeq : kk = kk'
          · subst hkeq
            have hkb : (kk == kk) = true := by simp
            by_cases h2 : kk = 2
            · subst h2
              clear hap
              cases q with
              | true =>
                go_wp2
                go_roundw
                case rel => exact ⟨k + 1, by omega, by go_num, HB2.out⟩
                case measure => simp [RowKit.intOf]; omega
              | false =>
                go_wp2
                go_roundw
                case rel => exact ⟨k + 1, by omega, by go_num, HB2.out⟩
                case measure => simp [RowKit.intOf]; omega
            · rw [if_neg (by rintro (h | h); exact h rfl; exact h2 h)] at hap
              obtain rfl : q = false := by simpa using hap
              clear hap
              go_wp2
              go_roundw
              case rel => exact ⟨k + 1, by omega, by go_num, HB2.out⟩
              case measure => simp [RowKit.intOf]; omega
          · have hkb : (kk == kk') = false := by simpa using hkeq
            clear hap
            go_wp2
            go_roundw
            case rel => exact ⟨k + 1, by omega, by go_num, HB2.out⟩
            case measure => simp [RowKit.intOf]; omega
    · have hltI : ¬ (k : Int) < n := by omega
      go_wp2
      go_ret
      exact ⟨rfl, hbw⟩
end Go.Proofs.YtfllomfjhkgaoaaGreatDoor

/- vellumlaw06.came: the cells of an insert. -/
namespace Go.Proofs.YtfllomfjhkgaoaaGreatDoor
open Go Go.RowKit Go.Lib
set_option linter.unusedVariables false

set_option maxHeartbeats 4000000 in
set_option maxRecDepth 100000 in
theorem came_emb {w0 : World} (o : Op5) (sp : Option Addr) (sl sc : Nat) (w : World) (hR : RN w0 (.slice sp sl sc) o.A) (hk : o.k = 2) :
    Calls Tryz.prog 58 #[opV o (.slice sp sl sc)] w fun r w' => ∃ v', r = .returned v' ∧ (∃ D, OwnC w' w.heap.size v' D ∧ Are w0 D (cellsOf o)) ∧ Below w.heap.size w w' := by
  have HE : Hid (cellsOf o = [(-1, o.t, o.v, o.A)]) := by show _ = _; unfold cellsOf; rw [if_neg (by omega)]
  have HR := Hid.mk' hR
  obtain ⟨C, hC⟩ : ∃ C, cellsOf o = C := ⟨_, rfl⟩
  rw [hC] at HE ⊢
  clear hC hR
  obtain ⟨k, t, ⟨x, z, u⟩, c, A⟩ := o
  simp only at hk HE HR
  subst hk
  obtain ⟨W1, hW1⟩ : ∃ W, W = w.alloc (.cells #[.int .i64 2, .string t, .int .i64 x, .int .i64 z, .string u, .int .i64 c, .slice sp sl sc] 48) := ⟨_, rfl⟩
  have b0 : Below w.heap.size w W1 := by rw [hW1]; exact (Below.refl _ _).alloc (Nat.le_refl _) _
  have d0 : W1.cell? ⟨w.heap.size, 0, none⟩ = some (.int .i64 2) := by rw [hW1]; simp
  have d1 : W1.cell? ⟨w.heap.size, 1, none⟩ = some (.string t) := by rw [hW1]; simp
  have d2 : W1.cell? ⟨w.heap.size, 2, none⟩ = some (.int .i64 x) := by rw [hW1]; simp
  have d3 : W1.cell? ⟨w.heap.size, 3, none⟩ = some (.int .i64 z) := by rw [hW1]; simp
  have d4 : W1.cell? ⟨w.heap.size, 4, none⟩ = some (.string u) := by rw [hW1]; simp
  have d6 : W1.cell? ⟨w.heap.size, 6, none⟩ = some (.slice sp sl sc) := by rw [hW1]; simp
  go_enter Tryz.func58, Tryz.ntmps58
  go_upto_region 1 with fail
  rw [← hW1]
  clear hW1
  go_wp2_with fail
  go_ret
  refine ⟨_, rfl, ⟨[(-1, t, (x, z, u), sp, sl, sc)], own_oneC W1 w.heap.size b0.size (-1, t, (x, z, u), sp, sl, sc), ?_⟩, b0.alloc b0.size _⟩
  rw [HE.out]
  exact .cons ⟨rfl, rfl, rfl, HR.out⟩ .nil
set_option maxHeartbeats 4000000 in
set_option maxRecDepth 100000 in
theorem came_text {w0 : World} (o : Op5) (sp : Option Addr) (sl sc : Nat) (w : World) (hRN : RN w0 (.slice sp sl sc) o.A) (hO : Ins o) (hk : o.k = 1) (ht : o.t.size ≤ 8388608) :
    Calls Tryz.prog 58 #[opV o (.slice sp sl sc)] w fun r w' => ∃ v', r = .returned v' ∧ (∃ D, OwnC w' w.heap.size v' D ∧ Are w0 D (cellsOf o)) ∧ Below w.heap.size w w' := by
  have hE : cellsOf o = mkC o.A (scs o.t.data.toList) := by unfold cellsOf; rw [if_pos hk]
  rw [hE]
  obtain ⟨h1, h2, h3⟩ := valid_text o.t hO.utf
  obtain ⟨k, t, ⟨x, z, u⟩, cc, A⟩ := o
  simp only at hk h1 h2 h3 ht hRN
  subst hk
  clear hE hO
  obtain ⟨rs, hrs⟩ : ∃ rs, scs t.data.toList = rs := ⟨_, rfl⟩
  simp only [hrs]
  rw [hrs] at h1 h2 h3
  obtain ⟨n, hnn⟩ : ∃ n, rs.length = n := ⟨_, rfl⟩
  rw [hnn] at h3
  have HV : Hid (t.data.toList = encs rs) := h2
  have HN : Hid (rs.length = n) := hnn
  have HR := Hid.mk' hRN
  obtain ⟨W1, hW1⟩ : ∃ W, W = w.alloc (.cells #[.int .i64 1, .string t, .int .i64 x, .int .i64 z, .string u, .int .i64 cc, .slice sp sl sc] 48) := ⟨_, rfl⟩
  have b1 : Below w.heap.size w W1 := by rw [hW1]; exact (Below.refl _ _).alloc (Nat.le_refl _) _
  have hs1 : W1.heap.size = w.heap.size + 1 := by rw [hW1]; simp
  have d0 : W1.cell? ⟨w.heap.size, 0, none⟩ = some (.int .i64 1) := by rw [hW1]; simp
  have d1 : W1.cell? ⟨w.heap.size, 1, none⟩ = some (.string t) := by rw [hW1]; simp
  have d6 : W1.cell? ⟨w.heap.size, 6, none⟩ = some (.slice sp sl sc) := by rw [hW1]; simp
  clear h2 hnn hrs hRN
  go_enter Tryz.func58, Tryz.ntmps58
  go_upto_region 1 with fail
  rw [← hW1]
  clear hW1
  have ne1 : ¬ w.heap.size = W1.heap.size := by omega
  have ne2 : ¬ W1.heap.size = w.heap.size := by omega
  go_upto_region 4 with fail
  obtain ⟨w2, hw2⟩ : ∃ W, W = W1.alloc (.cells #[] 59) := ⟨_, rfl⟩
  have hown : OwnC w2 (w.heap.size + 1) (.slice (some ⟨w.heap.size + 1, 0, none⟩) 0 0) [] := by rw [hw2, ← hs1]; exact own_emptyC W1 _ (by omega)
  have hb2 : Below w.heap.size w w2 := by rw [hw2]; exact b1.alloc b1.size _
  have e1 : w2.cell? ⟨w.heap.size, 1, none⟩ = some (.string t) := by rw [hw2]; exact (((Below.refl W1.heap.size W1).alloc (Nat.le_refl _) _).cell (lt_of_cell d1)).trans d1
  have e6 : w2.cell? ⟨w.heap.size, 6, none⟩ = some (.slice sp sl sc) := by rw [hw2]; exact (((Below.refl W1.heap.size W1).alloc (Nat.le_refl _) _).cell (lt_of_cell d6)).trans d6
  have hs2 : w2.heap.size = w.heap.size + 2 := by rw [hw2]; simp; omega
  rw [← hw2]
  obtain ⟨v0, hv0⟩ : ∃ v0 : Value, v0 = Value.slice (some ⟨w.heap.size + 1, 0, none⟩) 0 0 := ⟨_, rfl⟩
  rw [← hv0] at hown ⊢
  have HS2 := Hid.mk' hs2
  clear hw2 hv0 d0 d1 d6 b1 hs1 ne1 ne2 hs2
  go_wp2
  have bi : Below w2.heap.size w2 (w2.iter t 0) := (Below.refl _ _).alloc (Nat.le_refl _) _
  have hst : OwnC (w2.iter t 0) (w.heap.size + 1) v0 [] := owns_below hown bi
  have hit0 : (w2.iter t 0).heap[w2.heap.size]? = some (.stringIter t 0) := World.iter_heap w2 t 0
  have hbi : Below w.heap.size w (w2.iter t 0) := hb2.trans (bi.mono hb2.size)
  have ei : (w2.iter t 0).cell? ⟨w.heap.size, 6, none⟩ = some (.slice sp sl sc) := (bi.cell (lt_of_cell e6)).trans e6
  obtain ⟨K, hKK⟩ : ∃ K, K = w2.heap.size := ⟨_, rfl⟩
  have hK : w.heap.size + 2 ≤ K := by have := HS2.out; omega
  rw [← hKK] at hit0 ⊢
  obtain ⟨wi, hwi⟩ : ∃ wi, wi = w2.iter t 0 := ⟨_, rfl⟩
  rw [← hwi] at hst hit0 hbi ei ⊢
  clear hown hb2 e1 e6 hKK hwi bi HS2
  go_loopw [3] (fun v wr => ∃ (i : Nat) (D : List CV), i ≤ n ∧ D.length = i ∧ OwnC wr (w.heap.size + 1) v D ∧ Hid (Are w0 D (mkC A (rs.take i))) ∧ wr.heap[K]? = some (.stringIter t (pos rs i)) ∧ Below w.heap.size w wr ∧ wr.cell? ⟨w.heap.size, 6, none⟩ = some (.slice sp sl sc)) (fun _ wr => t.size - wr.iterPos K)
  case atStart => exact ⟨0, [], Nat.zero_le _, rfl, hst, .nil, hit0, hbi, ei⟩
  case round =>
    clear hst hit0 hbi ei
    obtain ⟨i, D, hin, hDl, hown, HA, hit, hbw, ew⟩ := hrel
    by_cases hlt : i < n
    · obtain ⟨hd, hp⟩ := decode_pos t rs HV.out h1 i (by rw [HN.out]; exact hlt)
      have hps := pos_succ rs i (by rw [HN.out]; exact hlt)
      have hpl := enc_pos (h1 _ (List.getElem_mem (show i < rs.length by rw [HN.out]; exact hlt)))
      have HT : Hid (mkC A (rs.take (i + 1)) = mkC A (rs.take i) ++ [(((rs[i]'(by rw [HN.out]; exact hlt) : Nat) : Int), ⟨#[]⟩, z0, A)]) := by
        show _ = _
        rw [List.take_succ_eq_append_getElem (by rw [HN.out]; exact hlt)]
        simp only [mkC, List.map_append, List.map_cons, List.map_nil]
      obtain ⟨R, hR⟩ : ∃ R, rs[i]'(by rw [HN.out]; exact hlt) = R := ⟨_, rfl⟩
      rw [hR] at hd hps hpl HT
      have hpq : pos rs i < pos rs (i + 1) := by omega
      have hnx : ∀ ty, (Instr.next (.pointer (some ⟨K, 0, none⟩)) true ty).run Tryz.prog wr = .ok (.tuple #[.bool true, .int .i64 (pos rs i), .int .i32 R]) (wr.iterAt K t (pos rs (i + 1))) := fun ty => by
        have := run_next_any_at (P := Tryz.prog) wr K t (pos rs i) ty hit hp
        rw [hd] at this
        rw [this, hps]
      obtain ⟨P, hP⟩ : ∃ P, pos rs i = P := ⟨_, rfl⟩
      obtain ⟨P2, hP2⟩ : ∃ P, pos rs (i + 1) = P := ⟨_, rfl⟩
      have HQ : Hid (pos rs (i + 1) = P2) := hP2
      rw [hP] at hnx hp hpq hit
      rw [hP2] at hnx hpq
      have hown2 := ownsC_iterAt hown hit P2
      have hit2 := iterAt_heap wr K t P P2 hit
      have hbw2 := below_iterAt hbw (Nat.le_of_succ_le (Nat.le_of_succ_le hK)) t P2
      have hsz2 : K < (wr.iterAt K t P2).heap.size := (Array.getElem?_eq_some_iff.1 hit2).1
      have ew2 : (wr.iterAt K t P2).cell? ⟨w.heap.size, 6, none⟩ = some (.slice sp sl sc) := by
        rw [World.cell?_of_block (a := ⟨w.heap.size, 6, none⟩) (w := wr) (by
          have hne : w.heap.size ≠ K := by omega
          simp [World.iterAt, Ne.symm hne])]
        exact ew
      have hsw : w.heap.size + 1 ≤ (wr.iterAt K t P2).heap.size := by omega
      obtain ⟨W, hW⟩ : ∃ W, W = wr.iterAt K t P2 := ⟨_, rfl⟩
      rw [← hW] at hown2 hit2 hbw2 hsz2 hnx ew2 hsw
      have hnK : Hid (∀ k, u3.ownBlock = some k → k ≠ K) := fun k hk e => by
        obtain ⟨_, cur, hcur⟩ := owns_block hown2 k hk
        rw [e, hit2] at hcur
        cases hcur
      have hge : Hid (∀ k, u3.ownBlock = some k → w.heap.size + 1 ≤ k) := fun k hk => (owns_block hown2 k hk).1
      have hpos : wr.iterPos K = P := by simp [World.iterPos, hit]
      have ba : Below W.heap.size W (W.alloc (.cells (ceC ((R : Int), ⟨#[]⟩, z0, sp, sl, sc)) 59)) := (Below.refl _ _).alloc (Nat.le_refl _) _
      have b6 := hbw2.trans (ba.mono hbw2.size)
      have HR6 : Hid (RowC (W.alloc (.cells (ceC ((R : Int), ⟨#[]⟩, z0, sp, sl, sc)) 59)) (.slice (some ⟨W.heap.size, 0, none⟩) 1 1) [((R : Int), ⟨#[]⟩, z0, sp, sl, sc)]) := one_rowC W _
      have HO6 : Hid (OwnC (W.alloc (.cells (ceC ((R : Int), ⟨#[]⟩, z0, sp, sl, sc)) 59)) (w.heap.size + 1) u3 D) := owns_below hown2 ba
      have HE6 : Hid (Are w0 (D ++ [((R : Int), ⟨#[]⟩, z0, sp, sl, sc)]) (mkC A (rs.take (i + 1)))) := by
        show Are _ _ _
        rw [HT.out]
        exact forall2_append HA.out (.cons ⟨rfl, rfl, rfl, HR.out⟩ .nil)
      have hK6 : (W.alloc (.cells (ceC ((R : Int), ⟨#[]⟩, z0, sp, sl, sc)) 59)).heap[K]? = some (.stringIter t P2) := by
        rw [Below.heap_alloc _ _ _ (by omega)]; exact hit2
      have ew6 : (W.alloc (.cells (ceC ((R : Int), ⟨#[]⟩, z0, sp, sl, sc)) 59)).cell? ⟨w.heap.size, 6, none⟩ = some (.slice sp sl sc) := by
        rw [ba.cell (by show w.heap.size < _; omega)]; exact ew2
      have hlen6 : D.length + ([((R : Int), ⟨#[]⟩, z0, sp, sl, sc)] : List CV).length ≤ 33554432 := by simp; omega
      have hsz6 : w.heap.size + 1 ≤ (W.alloc (.cells (ceC ((R : Int), ⟨#[]⟩, z0, sp, sl, sc)) 59)).heap.size := by simp; omega
      clear hown hd hps hpl hR hP hP2 hit hbw h1 hown2 ew ba HA HT hW
      go_wp2_with (at_builtin; refine wpList_append_cells rfl (.tmp 24) (.tmp 29) rfl (w.heap.size + 1) u3 D rfl HO6.out _ _ rfl HR6.out hlen6 hsz6 ?_; intro v' w7 own7 gr7)
      have hK7 : w7.heap[K]? = some (.stringIter t P2) := by
        rw [gr7.block K (by simp; omega) (fun e => hnK.out K e.symm rfl)]; exact hK6
      have ew7 : w7.cell? ⟨w.heap.size, 6, none⟩ = some (.slice sp sl sc) := by
        rw [World.cell?_of_block (a := ⟨w.heap.size, 6, none⟩) (gr7.block w.heap.size (by simp; omega) (fun e => by have := hge.out _ e.symm; omega))]; exact ew6
      have b7 : Below w.heap.size w w7 := b6.grown gr7 b6.size (fun k hk => by have := hge.out k hk; omega)
      go_roundw
      case rel => exact ⟨i + 1, _, by omega, by simp [hDl], own7, HE6, by rw [HQ.out]; exact hK7, b7, ew7⟩
      case measure =>
        have : w7.iterPos K = P2 := by simp [World.iterPos, hK7]
        rw [this]
        omega
    · have he : i = n := by omega
      have hpe : ¬ pos rs i < t.size := by
        rw [he, ← HN.out, pos_all, ← HV.out, size_toList]; omega
      have hnx : ∀ ty, (Instr.next (.pointer (some ⟨K, 0, none⟩)) true ty).run Tryz.prog wr = _ := fun ty => run_next_end_at wr K t _ ty hit hpe
      have hall : rs.take i = rs := List.take_of_length_le (by rw [HN.out]; omega)
      rw [hall] at HA
      have HO : Hid (OwnC wr w.heap.size u3 D) := own_weaken hown (Nat.le_succ _)
      clear hown hpe hit h1
      go_wp2
      go_ret
      exact ⟨_, rfl, ⟨D, HO.out, HA.out⟩, hbw⟩
theorem came_any {w0 : World} (o : Op5) (sp : Option Addr) (sl sc : Nat) (w : World) (hR : RN w0 (.slice sp sl sc) o.A) (hO : Ins o) (ht : o.t.size ≤ 8388608) :
    Calls Tryz.prog 58 #[opV o (.slice sp sl sc)] w fun r w' => ∃ v', r = .returned v' ∧ (∃ D, OwnC w' w.heap.size v' D ∧ Are w0 D (cellsOf o)) ∧ Below w.heap.size w w' := by
  rcases hO.kind with ⟨h, _⟩ | ⟨h, _⟩
  · exact came_text o sp sl sc w hR hO h ht
  · exact came_emb o sp sl sc w hR h
end Go.Proofs.YtfllomfjhkgaoaaGreatDoor

/- What vellumref03.Has answers: the first pair of a key. -/
namespace Go.Proofs.YtfllomfjhkgaoaaGreatDoor
open Go Go.RowKit Go.Lib
set_option linter.unusedVariables false


set_option maxHeartbeats 2000000 in
set_option maxRecDepth 100000 in
theorem has_any (v : Value) (L : List A2) (key : ByteArray) (w : World) (hv : RowA w v L) (hl : L.length ≤ 4611686018427387904) :
    Calls Tryz.prog 85 #[v, .string key] w fun r w' => r = .returned (.tuple #[plV ((look key L).getD z0), .bool (look key L).isSome]) ∧ Below w.heap.size w w' := by
  obtain ⟨n, hn⟩ : ∃ n, L.length = n := ⟨_, rfl⟩
  obtain ⟨p, cap, rfl, hcap, hc⟩ := hv
  rw [hn] at hl hcap ⊢
  have HN : Hid (L.length = n) := hn
  have HC : Hid _ := hc
  clear hc hn
  go_enter Tryz.func85, Tryz.ntmps85
  go_wp2_with fail
  obtain ⟨W0, hW0⟩ : ∃ W0, W0 = w.alloc (.cells #[.int .i64 0, .int .i64 0, .string ⟨#[]⟩] 45) := ⟨_, rfl⟩
  have r0 : W0.cell? ⟨w.heap.size, 0, none⟩ = some (.int .i64 0) := by rw [hW0]; simp
  have r1 : W0.cell? ⟨w.heap.size, 1, none⟩ = some (.int .i64 0) := by rw [hW0]; simp
  have r2 : W0.cell? ⟨w.heap.size, 2, none⟩ = some (.string ⟨#[]⟩) := by rw [hW0]; simp
  have f0 : W0.frozen? ⟨w.heap.size, 0, none⟩ = false := by rw [hW0]; simp
  have f1 : W0.frozen? ⟨w.heap.size, 1, none⟩ = false := by rw [hW0]; simp
  have f2 : W0.frozen? ⟨w.heap.size, 2, none⟩ = false := by rw [hW0]; simp
  have b0 : Below w.heap.size w W0 := by rw [hW0]; exact (Below.refl _ _).alloc (Nat.le_refl _) _
  rw [← hW0]
  clear hW0
  go_loopw [10] (fun i wr => ∃ (k : Nat), k ≤ n ∧ i = .int .i64 k ∧ Below W0.heap.size W0 wr ∧ Hid (look key L = look key (L.drop k))) (fun i _ => n - (RowKit.intOf i).toNat)
  case atStart => exact ⟨0, Nat.zero_le _, rfl, Below.refl _ _, rfl⟩
  case round =>
    obtain ⟨k, hk, rfl, hbw, H⟩ := hrel
    have s0 := (hbw.cell (lt_of_cell r0)).trans r0
    have s1 := (hbw.cell (lt_of_cell r1)).trans r1
    have s2 := (hbw.cell (lt_of_cell r2)).trans r2
    have g0 := (hbw.frozen (lt_of_cell r0)).trans f0
    have g1 := (hbw.frozen (lt_of_cell r1)).trans f1
    have g2 := (hbw.frozen (lt_of_cell r2)).trans f2
    have bw := b0.trans (hbw.mono b0.size)
    clear r0 r1 r2 f0 f1 f2 b0
    by_cases hlt : k < n
    · have hltI : (k : Int) < n := by omega
      obtain ⟨q, hq⟩ : ∃ q, L[k]? = some q := ⟨_, List.getElem?_eq_getElem (by rw [HN.out]; exact hlt)⟩
      obtain ⟨b, off, rfl, hp⟩ := HC.out k q hq
      obtain ⟨c0, c1, c2, c3⟩ := hp.below bw
      have hd : L.drop k = q :: L.drop (k + 1) := by
        rw [List.drop_eq_getElem_cons (by rw [HN.out]; exact hlt)]
        rw [List.getElem?_eq_getElem (by rw [HN.out]; exact hlt)] at hq
        rw [Option.some.inj hq]
      obtain ⟨qk, qx, qn, qt⟩ := q
      simp only at c0 c1 c2 c3
      by_cases he : qk = key
      · have hb := beq_key true (decide_eq_true he)
        have HR : Hid (look key L = some (qx, qn, qt)) := by
          show _ = _
          rw [H.out, hd, look, if_pos he]
        have hlt2 : w.heap.size < wr.heap.size := lt_of_cell s0
        have hne1 : ¬ w.heap.size = wr.heap.size := by omega
        have hne2 : ¬ wr.heap.size = w.heap.size := by omega
        clear he hd hq hp H
        go_wp2_with fail
        obtain ⟨W1, hW1⟩ : ∃ W1, W1 = ((wr.setCell ⟨w.heap.size, 0, none⟩ (.int .i64 qx)).setCell ⟨w.heap.size, 1, none⟩ (.int .i64 qn)).setCell ⟨w.heap.size, 2, none⟩ (.string qt) := ⟨_, rfl⟩
        have t0 : W1.cell? ⟨w.heap.size, 0, none⟩ = some (.int .i64 qx) := by rw [hW1]; simp [go_sem, s0]
        have t1 : W1.cell? ⟨w.heap.size, 1, none⟩ = some (.int .i64 qn) := by rw [hW1]; simp [go_sem, s1]
        have t2 : W1.cell? ⟨w.heap.size, 2, none⟩ = some (.string qt) := by rw [hW1]; simp [go_sem, s2]
        have bW1 : Below w.heap.size w W1 := by rw [hW1]; exact ((bw.setCell (Nat.le_refl _) _).setCell (Nat.le_refl _) _).setCell (Nat.le_refl _) _
        rw [HR.out, ← hW1]
        clear hW1 s0 s1 s2
        obtain ⟨W2, hW2⟩ : ∃ W2, W2 = W1.alloc (.cells #[.string qk, .int .i64 qx, .int .i64 qn, .string qt] 106) := ⟨_, rfl⟩
        have bR : Below W1.heap.size W1 W2 := by rw [hW2]; exact (Below.refl _ _).alloc (Nat.le_refl _) _
        have bW2 : Below w.heap.size w W2 := bW1.trans (bR.mono bW1.size)
        have u0 := (bR.cell (lt_of_cell t0)).trans t0
        have u1 := (bR.cell (lt_of_cell t1)).trans t1
        have u2 := (bR.cell (lt_of_cell t2)).trans t2
        rw [← hW2]
        clear hW2 t0 t1 t2
        exact bodyPost_ret (v := .tuple #[plV (qx, qn, qt), .bool true]) (by simp [results, Tryz.results85, go_sem, u0, u1, u2]) rfl ⟨rfl, bW2⟩
      · have hb := beq_key false (decide_eq_false he)
        have HR : Hid (look key L = look key (L.drop (k + 1))) := by
          show _ = _
          rw [H.out, hd, look, if_neg he]
        clear he hd hq hp H
        go_wp2_with fail
        go_roundw
        case rel => exact ⟨k + 1, by omega, by go_num, hbw.alloc hbw.size _, HR.out⟩
        case measure => simp [RowKit.intOf]; omega
    · have hltI : ¬ (k : Int) < n := by omega
      have HR : Hid (look key L = none) := by
        show _ = _
        rw [H.out, List.drop_of_length_le (by rw [HN.out]; omega), look]
      clear H
      go_wp2_with fail
      rw [HR.out]
      exact bodyPost_ret (v := .tuple #[plV z0, .bool false]) (by simp [results, Tryz.results85, go_sem, s0, s1, s2, z0]) rfl ⟨rfl, ((bw.setCell (Nat.le_refl _) _).setCell (Nat.le_refl _) _).setCell (Nat.le_refl _) _⟩
end Go.Proofs.YtfllomfjhkgaoaaGreatDoor

/- What vellumref03.whole, Over and Between answer. -/
namespace Go.Proofs.YtfllomfjhkgaoaaGreatDoor
open Go Go.RowKit Go.Lib
set_option linter.unusedVariables false

def wholeL (L : List A2) : List A2 := L.filter fun q => !(q.2.1 == 0)
def overL (A : List A2) (first : Bool) (B : List A2) : List A2 := B.filter fun q => !first || !(look q.1 A).isSome
def betL (A B : List A2) (J : List A2) : List A2 := J.filterMap fun x => if (look x.1 A).getD z0 = (look x.1 B).getD z0 then none else some (x.1, (look x.1 B).getD z0)
theorem filter_step {p : A2 → Bool} {L : List A2} {k : Nat} {q : A2} (hq : L[k]? = some q) : (L.take (k + 1)).filter p = (L.take k).filter p ++ (if p q then [q] else []) := by
  rw [List.take_add_one, hq, List.filter_append]
  simp only [Option.toList, List.filter_cons, List.filter_nil]
theorem filterMap_step {p : A2 → Option A2} {L : List A2} {k : Nat} {q : A2} (hq : L[k]? = some q) : (L.take (k + 1)).filterMap p = (L.take k).filterMap p ++ (p q).toList := by
  rw [List.take_add_one, hq, List.filterMap_append]
  congr 1

set_option maxHeartbeats 2000000 in
set_option maxRecDepth 100000 in
theorem whole_any (v : Value) (L : List A2) (w : World) (hv : RowA w v L) (hl : L.length ≤ 1048576) :
    Calls Tryz.prog 74 #[v] w fun r w' => ∃ v', r = .returned v' ∧ OwnA w' w.heap.size v' (wholeL L) ∧ Below w.heap.size w w' := by
  obtain ⟨n, hn⟩ : ∃ n, L.length = n := ⟨_, rfl⟩
  obtain ⟨p, cap, rfl, hcap, hc⟩ := hv
  rw [hn] at hl hcap ⊢
  have HN : Hid (L.length = n) := hn
  have HC : Hid _ := hc
  clear hc hn
  have oE := own_empty' w w.heap.size (Nat.le_refl _)
  have bE := (Below.refl w.heap.size w).alloc (Nat.le_refl _) (.cells #[] 106)
  go_enter Tryz.func74, Tryz.ntmps74
  go_wp2_with fail
  obtain ⟨v0, hv0⟩ : ∃ v0 : Value, v0 = .slice (some ⟨w.heap.size, 0, none⟩) 0 0 := ⟨_, rfl⟩
  rw [← hv0] at oE ⊢
  clear hv0
  go_loopw [3, 9] (fun out i wr => ∃ k : Nat, k ≤ n ∧ i = .int .i64 k ∧ OwnA wr w.heap.size out (wholeL (L.take k)) ∧ Below w.heap.size w wr) (fun _ i _ => n - (RowKit.intOf i).toNat)
  case atStart => exact ⟨0, Nat.zero_le _, rfl, oE, bE⟩
  case round =>
    obtain ⟨k, hk, rfl, own, bw⟩ := hrel
    by_cases hlt : k < n
    · have hltI : (k : Int) < n := by omega
      obtain ⟨q, hq⟩ : ∃ q, L[k]? = some q := ⟨_, List.getElem?_eq_getElem (by rw [HN.out]; exact hlt)⟩
      obtain ⟨b, off, rfl, hp⟩ := HC.out k q hq
      obtain ⟨c0, c1, c2, c3⟩ := hp.below bw
      obtain ⟨qk, qx, qn, qt⟩ := q
      simp only at c0 c1 c2 c3
      have hlen : Hid ((wholeL (L.take k)).length ≤ 1048676) := by show _ ≤ _; have h1 := (show (wholeL (L.take k)).length ≤ (L.take k).length from List.length_filter_le _ _); rw [List.length_take] at h1; omega
      have HO : Hid (OwnA wr w.heap.size u3 (wholeL (L.take k))) := own
      have HS := filter_step (p := fun q => !(q.2.1 == 0)) (L := L) (k := k) hq
      clear hp hq own
      by_cases hx0 : qx = 0
      · have hx : (qx != 0) = false := by simpa using hx0
        have HR : Hid (wholeL (L.take (k + 1)) = wholeL (L.take k)) := by
          show _ = _
          unfold wholeL
          rw [HS]; simp [hx0]
        clear hx0 HS
        go_wp2_with fail
        go_roundw
        case rel => exact ⟨k + 1, by omega, by go_num, by rw [HR.out]; exact owns_below HO.out ((Below.refl _ _).alloc (Nat.le_refl _) _), bw.alloc bw.size _⟩
        case measure => simp [RowKit.intOf]; omega
      · have hx : (qx != 0) = true := by simpa using hx0
        have HR : Hid (wholeL (L.take (k + 1)) = wholeL (L.take k) ++ [(qk, qx, qn, qt)]) := by
          show _ = _
          unfold wholeL
          rw [HS]; simp [hx0]
        clear hx0 HS
        have o6 := owns_below HO.out (((Below.refl wr.heap.size wr).alloc (Nat.le_refl _) (.cells #[.string qk, .int .i64 qx, .int .i64 qn, .string qt] 106)).alloc (by simp) (.cells #[.string qk, .int .i64 qx, .int .i64 qn, .string qt] 106))
        have b7 := (bw.alloc bw.size (.cells #[.string qk, .int .i64 qx, .int .i64 qn, .string qt] 106)).alloc (by have := bw.size; simp; omega) (.cells #[.string qk, .int .i64 qx, .int .i64 qn, .string qt] 106)
        have hge : ∀ j, u3.ownBlock = some j → w.heap.size ≤ j := fun j hj => (owns_block o6 j hj).1
        go_wp2_with (at_builtin; refine wpList_append_at rfl (.tmp 17) (.tmp 19) rfl w.heap.size u3 (wholeL (L.take k)) rfl o6 (wr.heap.size + 1) 1 (qk, qx, qn, qt) rfl ⟨by simp, by simp, by simp, by simp⟩ hlen.out b7.size ?_; intro v' w6 own' gr')
        have b8 := b7.grown gr' b7.size (fun j hj => hge j hj)
        go_roundw
        case rel => exact ⟨k + 1, by omega, by go_num, by rw [HR.out]; exact own', b8⟩
        case measure => simp [RowKit.intOf]; omega
    · have hltI : ¬ (k : Int) < n := by omega
      have HO : Hid (OwnA wr w.heap.size u3 (wholeL L)) := by
        show OwnA _ _ _ _
        rw [List.take_of_length_le (by rw [HN.out]; omega)] at own
        exact own
      clear own
      go_wp2
      go_ret
      exact ⟨_, rfl, HO.out, bw⟩

end Go.Proofs.YtfllomfjhkgaoaaGreatDoor

/- What vellumref03.Join answers of two patches: the one over the other. -/
namespace Go.Proofs.YtfllomfjhkgaoaaGreatDoor
open Go Go.RowKit Go.Lib
set_option linter.unusedVariables false

theorem jt_b {x y : A2} {A B : List A2} (h : kc y.1 x.1 < 0) : jn (chC true) (x :: A) (y :: B) = y :: jn (chC true) (x :: A) B := by
  have hs := kc_swap x.1 y.1
  show joinL _ (x :: A) (y :: B) = _
  rw [joinL, if_neg (by omega), if_neg (by omega)]; rfl
theorem jt_a {x y : A2} {A B : List A2} (h : kc x.1 y.1 < 0) : jn (chC true) (x :: A) (y :: B) = x :: jn (chC true) A (y :: B) := by
  show joinL _ (x :: A) (y :: B) = _
  rw [joinL, if_pos h]; rfl
theorem jt_a0 {x : A2} {A : List A2} : jn (chC true) (x :: A) [] = x :: jn (chC true) A [] := by
  show joinL _ (x :: A) [] = _
  rw [joinL]; rfl
theorem jt_eq {x y : A2} {A B : List A2} (e : y.1 = x.1) (hA : Up (x :: A)) : jn (chC true) (x :: A) (y :: B) = jn (chC true) A (y :: B) := by
  have h0 : kc x.1 y.1 = 0 := by rw [e]; exact kc_self _
  show joinL _ (x :: A) (y :: B) = _
  rw [joinL, if_neg (by omega), if_pos h0]
  cases A with
  | nil =>
    show _ = joinL _ [] (y :: B)
    rw [joinL, e]; rfl
  | cons z A =>
    have hz : kc x.1 z.1 < 0 := List.rel_of_pairwise_cons hA (List.mem_cons_self ..)
    have hzy : kc y.1 z.1 < 0 := by rw [e]; exact hz
    have hs := kc_swap z.1 y.1
    show _ = joinL _ (z :: A) (y :: B)
    rw [joinL, if_neg (by omega), if_neg (by omega), e]; rfl
theorem drop_cons {L : List A2} {k n : Nat} {q : A2} (hn : L.length = n) (hk : k < n) (hq : L[k]? = some q) : L.drop k = q :: L.drop (k + 1) := by
  rw [List.drop_eq_getElem_cons (by omega)]
  rw [List.getElem?_eq_getElem (by omega)] at hq
  rw [Option.some.inj hq]

set_option maxHeartbeats 40000000 in
set_option maxRecDepth 100000 in
theorem join_ref (va vb : Value) (A B : List A2) (w : World) (hA : RowA w va A) (hB : RowA w vb B) (zB : ∀ m c, vb = .slice none m c → m = 0 ∧ c = 0) (uA : Up A) (uB : Up B) (hl : A.length + B.length ≤ 1048576) :
    Calls Tryz.prog 75 #[va, vb] w fun r w' => ∃ v', r = .returned v' ∧ OwnA w' w.heap.size v' (jn (chC true) A B) ∧ Below w.heap.size w w' := by
  obtain ⟨n, hn⟩ : ∃ n, A.length = n := ⟨_, rfl⟩
  obtain ⟨m, hm⟩ : ∃ n, B.length = n := ⟨_, rfl⟩
  have HB0 : Hid (RowA w vb B) := hB
  obtain ⟨pa, ca, rfl, hca, hcA⟩ := hA
  obtain ⟨pb, cb, rfl, hcb, hcB⟩ := hB
  rw [hn] at hl hca ⊢
  rw [hm] at hl hcb HB0 ⊢
  have HN : Hid (A.length = n ∧ B.length = m) := ⟨hn, hm⟩
  have HA : Hid _ := hcA
  have HB : Hid _ := hcB
  have HU : Hid (Up A ∧ Up B) := ⟨uA, uB⟩
  have HZ : Hid _ := zB
  clear hcA hcB hn hm uA uB zB
  have oE := own_empty' w w.heap.size (Nat.le_refl _)
  have bE := (Below.refl w.heap.size w).alloc (Nat.le_refl _) (.cells #[] 106)
  go_enter Tryz.func75, Tryz.ntmps75
  go_wp2_with fail
  obtain ⟨v0, hv0⟩ : ∃ v0 : Value, v0 = .slice (some ⟨w.heap.size, 0, none⟩) 0 0 := ⟨_, rfl⟩
  rw [← hv0] at oE ⊢
  clear hv0
  go_loopw [5, 6, 16] (fun out i kk wr => ∃ (k j : Nat) (O : List A2), k ≤ n ∧ j ≤ m ∧ kk = .int .i64 k ∧ i = .int .i64 j ∧ OwnA wr w.heap.size out O ∧ Below w.heap.size w wr ∧ Hid (jn (chC true) A B = O ++ jn (chC true) (A.drop k) (B.drop j) ∧ O.length ≤ k + j)) (fun _ _ kk _ => n - (RowKit.intOf kk).toNat)
  case atStart => exact ⟨0, 0, [], Nat.zero_le _, Nat.zero_le _, rfl, rfl, oE, bE, by simp, by simp⟩
  case round =>
    obtain ⟨k, j, O, hk, hj, rfl, rfl, own, bw, H⟩ := hrel
    clear oE bE
    by_cases hlt : k < n
    · have hltI : (k : Int) < n := by omega
      obtain ⟨x, hx⟩ : ∃ q, A[k]? = some q := ⟨_, List.getElem?_eq_getElem (by rw [HN.out.1]; exact hlt)⟩
      obtain ⟨b, off, rfl, hp⟩ := HA.out k x hx
      obtain ⟨c0, c1, c2, c3⟩ := hp.below bw
      have HD : Hid (A.drop k = x :: A.drop (k + 1)) := drop_cons HN.out.1 hlt hx
      obtain ⟨xk, xx, xn, xt⟩ := x
      simp only at c0 c1 c2 c3
      have HO : Hid (OwnA wr w.heap.size u5 O) := own
      clear hp hx own
      go_wp2_with fail
      obtain ⟨W1, hW1⟩ : ∃ W1, W1 = wr.alloc (.cells #[.string xk, .int .i64 xx, .int .i64 xn, .string xt] 106) := ⟨_, rfl⟩
      have bW1 : Below w.heap.size w W1 := by rw [hW1]; exact bw.alloc bw.size _
      have oW1 : OwnA W1 w.heap.size u5 O := by rw [hW1]; exact owns_below HO.out ((Below.refl _ _).alloc (Nat.le_refl _) _)
      have pE : PairAt W1 wr.heap.size 0 (xk, xx, xn, xt) := by rw [hW1]; exact ⟨by simp, by simp, by simp, by simp⟩
      have offE : ∀ g, u5.ownBlock = some g → g ≠ wr.heap.size := fun g hg => by
        obtain ⟨_, cur, hc⟩ := owns_block HO.out g hg
        have := (Array.getElem?_eq_some_iff.1 hc).1
        omega
      obtain ⟨E, hE⟩ : ∃ E, wr.heap.size = E := ⟨_, rfl⟩
      rw [hE] at pE offE ⊢
      rw [← hW1]
      clear hW1 hE HO c0 c1 c2 c3 bw
      go_loopw [5, 6] (fun out i wr => ∃ (j : Nat) (O : List A2), j ≤ m ∧ i = .int .i64 j ∧ OwnA wr w.heap.size out O ∧ Below w.heap.size w wr ∧ PairAt wr E 0 (xk, xx, xn, xt) ∧ Hid (∀ g, out.ownBlock = some g → g ≠ E) ∧ Hid (jn (chC true) A B = O ++ jn (chC true) (A.drop k) (B.drop j) ∧ O.length ≤ k + j)) (fun _ i _ => m - (RowKit.intOf i).toNat)
      case atStart => exact ⟨j, O, hj, rfl, oW1, bW1, pE, offE, H⟩
      case round =>
        clear oW1 bW1 pE offE H hj
        obtain ⟨j, O, hj, rfl, own, bw, pE, offE, H⟩ := hrel
        obtain ⟨e0, e1, e2, e3⟩ := pE
        have PE : Hid (PairAt wr E 0 (xk, xx, xn, xt)) := ⟨e0, e1, e2, e3⟩
        have HO : Hid (OwnA wr w.heap.size u5 O) := own
        rw [Nat.zero_add] at e1 e2 e3
        simp only at e0 e1 e2 e3
        have hE : E < wr.heap.size := lt_of_cell e0
        clear own
        by_cases hjl : j < m
        · have hjI : (j : Int) < m := by omega
          have hj0 : (0 : Int) ≤ (j : Int) := by omega
          obtain ⟨y, hy⟩ : ∃ q, B[j]? = some q := ⟨_, List.getElem?_eq_getElem (by rw [HN.out.2]; exact hjl)⟩
          obtain ⟨b', off', rfl, hp⟩ := HB.out j y hy
          obtain ⟨d0, d1, d2, d3⟩ := hp.below bw
          have HD2 : Hid (B.drop j = y :: B.drop (j + 1)) := drop_cons HN.out.2 hjl hy
          obtain ⟨yk, yx, yn, yt⟩ := y
          simp only at d0 d1 d2 d3
          clear hp hy
          by_cases hlt2 : kc yk xk < 0
          · -- b's next is smaller: it comes
            have q1 : Op.bytesLess yk.toList xk.toList = true := by rw [less_kc]; exact decide_eq_true hlt2
            have HH : Hid (jn (chC true) A B = (O ++ [(yk, yx, yn, yt)]) ++ jn (chC true) (A.drop k) (B.drop (j + 1)) ∧ (O ++ [(yk, yx, yn, yt)]).length ≤ k + (j + 1)) := by
              refine ⟨?_, by have := H.out.2; simp; omega⟩
              rw [H.out.1, HD.out, HD2.out, jt_b hlt2]; simp
            have hLn : Hid (O.length + 1 ≤ 2097152) := by show _ ≤ _; have := H.out.2; omega
            clear H
            go_wp2_with fail
            go_quiet (fail)
            obtain ⟨wq, hwq⟩ : ∃ wq, wq = wr.drewN nq := ⟨_, rfl⟩
            have bq : Below w.heap.size w wq := by rw [hwq]; exact below_drewN bw _
            have PQ : Hid (PairAt wq E 0 (xk, xx, xn, xt)) := by rw [hwq]; exact PairAt.drewN PE.out _
            have OQ : Hid (OwnA wq w.heap.size u5 O) := by rw [hwq]; exact owns_same HO.out (fun _ _ => rfl)
            have hEq : E < wq.heap.size := by rw [hwq]; exact hE
            have f0 : wq.cell? ⟨b', off' + j * 4, none⟩ = some (.string yk) := by rw [hwq]; exact d0
            have f1 : wq.cell? ⟨b', off' + j * 4 + 1, none⟩ = some (.int .i64 yx) := by rw [hwq]; exact d1
            have f2 : wq.cell? ⟨b', off' + j * 4 + 2, none⟩ = some (.int .i64 yn) := by rw [hwq]; exact d2
            have f3 : wq.cell? ⟨b', off' + j * 4 + 3, none⟩ = some (.string yt) := by rw [hwq]; exact d3
            rw [← hwq]
            clear hwq HO PE e0 e1 e2 e3 bw hE d0 d1 d2 d3
            have o6 := owns_below OQ.out ((Below.refl wq.heap.size wq).alloc (Nat.le_refl _) (.cells #[.string yk, .int .i64 yx, .int .i64 yn, .string yt] 106))
            have b7 := bq.alloc bq.size (.cells #[.string yk, .int .i64 yx, .int .i64 yn, .string yt] 106)
            have p7 : Hid (PairAt (wq.alloc (.cells #[.string yk, .int .i64 yx, .int .i64 yn, .string yt] 106)) E 0 (xk, xx, xn, xt)) := PairAt.below PQ.out ((Below.refl _ _).alloc (Nat.le_refl _) _)
            have hge : ∀ g, u5.ownBlock = some g → w.heap.size ≤ g := fun g hg => (owns_block o6 g hg).1
            go_wp2_with (at_builtin; refine wpList_append_atx rfl (.tmp 34) (.tmp 39) rfl w.heap.size u5 O rfl o6 wq.heap.size 0 1 1 [(yk, yx, yn, yt)] rfl rfl (one_at ⟨by simp, by simp, by simp, by simp⟩) hLn.out b7.size ?_; intro v' w6 own' gr' hat')
            have b8 := b7.grown gr' b7.size (fun g hg => hge g hg)
            have p8 : PairAt w6 E 0 (xk, xx, xn, xt) := PairAt.grown p7.out gr' (fun e => offE.out E e.symm rfl)
            have off8 : Hid (∀ g, v'.ownBlock = some g → g ≠ E) := fun g hg => by
              rcases hat' with h | h
              · exact offE.out g (by rw [← h]; exact hg)
              · rw [h] at hg
                have := Option.some.inj hg
                simp at this
                omega
            refine ⟨⟨j + 1, _, by omega, by go_num, own', b8, p8, off8, HH.out⟩, ?_⟩
            simp [RowKit.intOf]; omega
          · have q1 : Op.bytesLess yk.toList xk.toList = false := by rw [less_kc]; exact decide_eq_false hlt2
            by_cases heq : yk = xk
            · have q2 := beq_key (x := yk) (y := xk) true (decide_eq_true heq)
              have HH : Hid (jn (chC true) A B = O ++ jn (chC true) (A.drop (k + 1)) (B.drop j) ∧ O.length ≤ k + 1 + j) := by
                refine ⟨?_, by have := H.out.2; omega⟩
                have hu : Up ((xk, xx, xn, xt) :: A.drop (k + 1)) := by rw [← HD.out]; exact List.Pairwise.sublist (List.drop_sublist _ _) HU.out.1
                rw [H.out.1, HD.out, HD2.out, jt_eq heq hu]
              clear H heq hlt2
              go_wp2_with fail
              go_quiet (fail)
              clear offE hE PE
              obtain ⟨wq, hw_wq⟩ : ∃ W', W' = wr.drewN nq := ⟨_, rfl⟩
              have b_wq : Below w.heap.size w wq := by rw [hw_wq]; exact below_drewN bw _
              have O_wq : Hid (OwnA wq w.heap.size u5 O) := by rw [hw_wq]; exact owns_same HO.out (fun _ _ => rfl)
              have e0_wq : wq.cell? ⟨E, 0, none⟩ = some (.string xk) := by rw [hw_wq]; exact e0
              have e1_wq : wq.cell? ⟨E, 1, none⟩ = some (.int .i64 xx) := by rw [hw_wq]; exact e1
              have e2_wq : wq.cell? ⟨E, 2, none⟩ = some (.int .i64 xn) := by rw [hw_wq]; exact e2
              have e3_wq : wq.cell? ⟨E, 3, none⟩ = some (.string xt) := by rw [hw_wq]; exact e3
              have f0_wq : wq.cell? ⟨b', off' + j * 4, none⟩ = some (.string yk) := by rw [hw_wq]; exact d0
              rw [← hw_wq]
              clear hw_wq bw HO e0 e1 e2 e3
              clear d0
              clear d1 d2 d3
              go_wp2_with fail
              go_quiet (fail)
              clear f0_wq e0_wq e1_wq e2_wq e3_wq
              go_wp2_with fail
              go_roundw
              case rel => exact ⟨k + 1, j, O, by omega, hj, by go_num, rfl, owns_same O_wq.out (fun _ _ => rfl), below_drewN b_wq _, HH.out⟩
              case measure => simp [RowKit.intOf]; omega
            · have q2 := beq_key (x := yk) (y := xk) false (decide_eq_false heq)
              have hgt : kc xk yk < 0 := by
                have hs := kc_swap yk xk
                rcases kc_range xk yk with h | h | h
                · omega
                · exact absurd (kc_zero.1 h).symm heq
                · omega
              have HH : Hid (jn (chC true) A B = (O ++ [(xk, xx, xn, xt)]) ++ jn (chC true) (A.drop (k + 1)) (B.drop j) ∧ (O ++ [(xk, xx, xn, xt)]).length ≤ k + 1 + j) := by
                refine ⟨?_, by have := H.out.2; simp; omega⟩
                rw [H.out.1, HD.out, HD2.out, jt_a hgt]; simp
              have hLn : Hid (O.length + 1 ≤ 2097152) := by show _ ≤ _; have := H.out.2; omega
              clear H heq hlt2 hgt
              go_wp2_with fail
              go_quiet (fail)
              clear offE hE PE
              obtain ⟨wq, hw_wq⟩ : ∃ W', W' = wr.drewN nq := ⟨_, rfl⟩
              have b_wq : Below w.heap.size w wq := by rw [hw_wq]; exact below_drewN bw _
              have O_wq : Hid (OwnA wq w.heap.size u5 O) := by rw [hw_wq]; exact owns_same HO.out (fun _ _ => rfl)
              have e0_wq : wq.cell? ⟨E, 0, none⟩ = some (.string xk) := by rw [hw_wq]; exact e0
              have e1_wq : wq.cell? ⟨E, 1, none⟩ = some (.int .i64 xx) := by rw [hw_wq]; exact e1
              have e2_wq : wq.cell? ⟨E, 2, none⟩ = some (.int .i64 xn) := by rw [hw_wq]; exact e2
              have e3_wq : wq.cell? ⟨E, 3, none⟩ = some (.string xt) := by rw [hw_wq]; exact e3
              have f0_wq : wq.cell? ⟨b', off' + j * 4, none⟩ = some (.string yk) := by rw [hw_wq]; exact d0
              rw [← hw_wq]
              clear hw_wq bw HO e0 e1 e2 e3
              clear d0
              clear d1 d2 d3
              go_wp2_with fail
              go_quiet (fail)
              obtain ⟨wz, hw_wz⟩ : ∃ W', W' = wq.drewN nq := ⟨_, rfl⟩
              have b_wz : Below w.heap.size w wz := by rw [hw_wz]; exact below_drewN b_wq _
              have O_wz : Hid (OwnA wz w.heap.size u5 O) := by rw [hw_wz]; exact owns_same O_wq.out (fun _ _ => rfl)
              have e0_wz : wz.cell? ⟨E, 0, none⟩ = some (.string xk) := by rw [hw_wz]; exact e0_wq
              have e1_wz : wz.cell? ⟨E, 1, none⟩ = some (.int .i64 xx) := by rw [hw_wz]; exact e1_wq
              have e2_wz : wz.cell? ⟨E, 2, none⟩ = some (.int .i64 xn) := by rw [hw_wz]; exact e2_wq
              have e3_wz : wz.cell? ⟨E, 3, none⟩ = some (.string xt) := by rw [hw_wz]; exact e3_wq
              have f0_wz : wz.cell? ⟨b', off' + j * 4, none⟩ = some (.string yk) := by rw [hw_wz]; exact f0_wq
              rw [← hw_wz]
              clear hw_wz b_wq O_wq e0_wq e1_wq e2_wq e3_wq
              clear f0_wq
              clear f0_wz
              have o6 := owns_below O_wz.out ((Below.refl wz.heap.size wz).alloc (Nat.le_refl _) (.cells #[.string xk, .int .i64 xx, .int .i64 xn, .string xt] 106))
              have b7 := b_wz.alloc b_wz.size (.cells #[.string xk, .int .i64 xx, .int .i64 xn, .string xt] 106)
              have hge : ∀ g, u5.ownBlock = some g → w.heap.size ≤ g := fun g hg => (owns_block o6 g hg).1
              go_wp2_with (at_builtin; refine wpList_append_atx rfl (.tmp 57) (.tmp 59) rfl w.heap.size u5 O rfl o6 wz.heap.size 0 1 1 [(xk, xx, xn, xt)] rfl rfl (one_at ⟨by simp, by simp, by simp, by simp⟩) hLn.out b7.size ?_; intro v' w6 own' gr' hat')
              have b8 := b7.grown gr' b7.size (fun g hg => hge g hg)
              go_roundw
              case rel => exact ⟨k + 1, j, _, by omega, hj, by go_num, rfl, own', b8, HH.out⟩
              case measure => simp [RowKit.intOf]; omega
        · have hjm : j = m := by omega
          have hjI : decide ((j : Int) < (m : Int)) = false := decide_eq_false (by omega)
          have hjI2 : ¬ (j : Int) < (m : Int) := by omega
          have HD2 : Hid (B.drop j = []) := List.drop_of_length_le (by rw [HN.out.2]; omega)
          have HH : Hid (jn (chC true) A B = (O ++ [(xk, xx, xn, xt)]) ++ jn (chC true) (A.drop (k + 1)) (B.drop j) ∧ (O ++ [(xk, xx, xn, xt)]).length ≤ k + 1 + j) := by
            refine ⟨?_, by have := H.out.2; simp; omega⟩
            rw [H.out.1, HD.out, HD2.out, jt_a0]; simp
          have hLn : Hid (O.length + 1 ≤ 2097152) := by show _ ≤ _; have := H.out.2; omega
          clear H hjm
          go_wp2_with fail
          go_quiet (fail)
          clear offE hE PE
          obtain ⟨wq, hw_wq⟩ : ∃ W', W' = wr.drewN nq := ⟨_, rfl⟩
          have b_wq : Below w.heap.size w wq := by rw [hw_wq]; exact below_drewN bw _
          have O_wq : Hid (OwnA wq w.heap.size u5 O) := by rw [hw_wq]; exact owns_same HO.out (fun _ _ => rfl)
          have e0_wq : wq.cell? ⟨E, 0, none⟩ = some (.string xk) := by rw [hw_wq]; exact e0
          have e1_wq : wq.cell? ⟨E, 1, none⟩ = some (.int .i64 xx) := by rw [hw_wq]; exact e1
          have e2_wq : wq.cell? ⟨E, 2, none⟩ = some (.int .i64 xn) := by rw [hw_wq]; exact e2
          have e3_wq : wq.cell? ⟨E, 3, none⟩ = some (.string xt) := by rw [hw_wq]; exact e3
          rw [← hw_wq]
          clear hw_wq bw HO e0 e1 e2 e3
          go_wp2_with fail
          go_quiet (fail)
          obtain ⟨wz, hw_wz⟩ : ∃ W', W' = wq.drewN nq := ⟨_, rfl⟩
          have b_wz : Below w.heap.size w wz := by rw [hw_wz]; exact below_drewN b_wq _
          have O_wz : Hid (OwnA wz w.heap.size u5 O) := by rw [hw_wz]; exact owns_same O_wq.out (fun _ _ => rfl)
          have e0_wz : wz.cell? ⟨E, 0, none⟩ = some (.string xk) := by rw [hw_wz]; exact e0_wq
          have e1_wz : wz.cell? ⟨E, 1, none⟩ = some (.int .i64 xx) := by rw [hw_wz]; exact e1_wq
          have e2_wz : wz.cell? ⟨E, 2, none⟩ = some (.int .i64 xn) := by rw [hw_wz]; exact e2_wq
          have e3_wz : wz.cell? ⟨E, 3, none⟩ = some (.string xt) := by rw [hw_wz]; exact e3_wq
          rw [← hw_wz]
          clear hw_wz b_wq O_wq e0_wq e1_wq e2_wq e3_wq
          have o6 := owns_below O_wz.out ((Below.refl wz.heap.size wz).alloc (Nat.le_refl _) (.cells #[.string xk, .int .i64 xx, .int .i64 xn, .string xt] 106))
          have b7 := b_wz.alloc b_wz.size (.cells #[.string xk, .int .i64 xx, .int .i64 xn, .string xt] 106)
          have hge : ∀ g, u5.ownBlock = some g → w.heap.size ≤ g := fun g hg => (owns_block o6 g hg).1
          go_wp2_with (at_builtin; refine wpList_append_atx rfl (.tmp 57) (.tmp 59) rfl w.heap.size u5 O rfl o6 wz.heap.size 0 1 1 [(xk, xx, xn, xt)] rfl rfl (one_at ⟨by simp, by simp, by simp, by simp⟩) hLn.out b7.size ?_; intro v' w6 own' gr' hat')
          have b8 := b7.grown gr' b7.size (fun g hg => hge g hg)
          go_roundw
          case rel => exact ⟨k + 1, j, _, by omega, hj, by go_num, rfl, own', b8, HH.out⟩
          case measure => simp [RowKit.intOf]; omega
    · have hkn : k = n := by omega
      have hltI : ¬ (k : Int) < n := by omega
      have HJ : Hid (O ++ B.drop j = jn (chC true) A B ∧ O.length + (m - j) ≤ 2097152) := by
        refine ⟨?_, by have := H.out.2; omega⟩
        have h0 : A.drop k = [] := List.drop_of_length_le (by rw [HN.out.1]; omega)
        rw [H.out.1, h0, three3 (List.Pairwise.sublist (List.drop_sublist _ _) HU.out.2)]
      clear H hkn
      have HO : Hid (OwnA wr w.heap.size u5 O) := own
      clear own
      have lM : Hid ((B.drop j).length = m - j) := by show _ = _; rw [List.length_drop, HN.out.2]
      have hj0 : (0 : Int) ≤ (j : Int) := by omega
      have hj1 : (j : Int) ≤ (m : Int) := by omega
      have hge : ∀ g, u5.ownBlock = some g → w.heap.size ≤ g := fun g hg => (owns_block HO.out g hg).1
      go_upto_region 12 with fail
      go_cut [5] from 62 (fun v' wc => OwnA wc w.heap.size v' (jn (chC true) A B) ∧ Below w.heap.size w wc)
      case first =>
        cases pb with
        | none =>
          obtain ⟨hm0, rfl⟩ := HZ.out _ _ rfl
          have hm1 : m = 0 := by rw [← HN.out.2]; exact hm0
          subst hm1
          obtain rfl : j = 0 := by omega
          have hB0 : Hid (B.drop 0 = []) := by show _ = _; exact List.eq_nil_of_length_eq_zero (by rw [lM.out])
          obtain ⟨i0, z0', hi, hz, hz1, hz2, hz3⟩ := infoAt
          go_wp2_with (at_builtin; refine wpList_append_own_none rfl (.tmp 62) (.tmp 65) 46 rfl w.heap.size 106 i0 4 Tryz.underlying46 hi u5 O.length (cellsA O) rfl HO.out rfl ?_)
          clear hi hz hz1 hz2 hz3
          go_wp2
          go_meet
          case rel => exact ⟨by show OwnA _ _ _ _; rw [← HJ.out.1, hB0.out, List.append_nil]; exact HO.out, bw⟩
        | some ad =>
          by_cases hjm : j = m
          · have hjm' : Hid (j = m) := hjm
            clear hjm
            have hB0 : Hid (B.drop j = []) := by show _ = _; exact List.eq_nil_of_length_eq_zero (by rw [lM.out]; have := hjm'.out; omega)
            have hLO : Hid (O.length ≤ 2097152) := by show _ ≤ _; have := HJ.out.2; omega
            by_cases hcj : cb = j
            · have hcj' : j = cb := hcj.symm
              subst hcj'
              go_wp2_with (at_builtin; refine wpList_append_emp rfl (.tmp 62) (.tmp 65) rfl w.heap.size u5 O rfl HO.out _ _ _ rfl (by have := hjm'.out; omega) hLO.out bw.size ?_; intro v' w6 own' gr' hat')
              go_wp2
              go_meet
              case rel => exact ⟨by show OwnA _ _ _ _; rw [← HJ.out.1, hB0.out, List.append_nil]; exact own', bw.grown gr' bw.size (fun g hg => hge g hg)⟩
            · go_wp2_with (at_builtin; refine wpList_append_emp rfl (.tmp 62) (.tmp 65) rfl w.heap.size u5 O rfl HO.out _ _ _ rfl (by have := hjm'.out; omega) hLO.out bw.size ?_; intro v' w6 own' gr' hat')
              go_wp2
              go_meet
              case rel => exact ⟨by show OwnA _ _ _ _; rw [← HJ.out.1, hB0.out, List.append_nil]; exact own', bw.grown gr' bw.size (fun g hg => hge g hg)⟩
          · obtain ⟨y0, hy0⟩ : ∃ q, B[j]? = some q := ⟨_, List.getElem?_eq_getElem (by rw [HN.out.2]; omega)⟩
            obtain ⟨b0, off0, hpb, _⟩ := HB.out j y0 hy0
            cases hpb
            clear hy0
            have hcj : ¬ cb = j := by omega
            have hM : Hid (∀ (i : Nat) (q : A2), (B.drop j)[i]? = some q → PairAt wr b0 (off0 + j * 4 + i * 4) q) := fun i q hq => by
              rw [List.getElem?_drop] at hq
              obtain ⟨b1, off1, he, h1⟩ := HB.out _ q hq
              cases he
              rw [show off0 + j * 4 + i * 4 = off0 + (j + i) * 4 by omega]
              exact h1.below bw
            have hLO : Hid (O.length + (m - j) ≤ 2097152) := HJ.out.2
            go_wp2_with (at_builtin; refine wpList_append_atx rfl (.tmp 62) (.tmp 65) rfl w.heap.size u5 O rfl HO.out b0 (off0 + j * 4) (m - j) (cb - j) (B.drop j) rfl lM.out hM.out hLO.out bw.size ?_; intro v' w6 own' gr' hat')
            go_wp2
            go_meet
            case rel => exact ⟨by show OwnA _ _ _ _; rw [← HJ.out.1]; exact own', bw.grown gr' bw.size (fun g hg => hge g hg)⟩
      case rest =>
        obtain ⟨OJ0, b8⟩ := hcut
        obtain ⟨w6, hw6⟩ : ∃ w6, w6 = wc := ⟨_, rfl⟩
        subst hw6
        obtain ⟨v', hv'⟩ : ∃ v', v' = u5 := ⟨_, rfl⟩
        subst hv'
        have OJ : Hid (OwnA w6 w.heap.size v' (jn (chC true) A B)) := OJ0
        clear OJ0 HJ HO bw hge lM hj0 hj1 hltI hlt hj hk
        have HR : Hid (RowA w6 v' (jn (chC true) A B)) := own_rowA OJ.out
        have hJl : Hid ((jn (chC true) A B).length ≤ 1048576) := by show _ ≤ _; have := jn_len (chC true) A B; rw [HN.out.1, HN.out.2] at this; omega
        go_wp2_with fail
        go_loopw [5, 69] (fun vv i wr => v' = vv ∧ ∃ k : Nat, k ≤ m ∧ i = .int .i64 k ∧ Below w6.heap.size w6 wr) (fun _ i _ => m - (RowKit.intOf i).toNat)
        case atStart => exact ⟨rfl, 0, Nat.zero_le _, rfl, Below.refl _ _⟩
        case round =>
          obtain ⟨hvv, k, hk, rfl, bk⟩ := hrel
          subst hvv
          by_cases hlt : k < m
          · have hltI : (k : Int) < m := by omega
            obtain ⟨y, hy⟩ : ∃ q, B[k]? = some q := ⟨_, List.getElem?_eq_getElem (by rw [HN.out.2]; exact hlt)⟩
            obtain ⟨b', off', hpb, hp⟩ := HB.out k y hy
            have b9 := b8.trans (bk.mono b8.size)
            obtain ⟨d0, d1, d2, d3⟩ := hp.below b9
            have hlk : look y.1 (jn (chC true) A B) = some y.2 := by
              rw [look_join _ HU.out.1 HU.out.2, mem_look HU.out.2 (List.mem_of_getElem? hy)]
              cases look y.1 A <;> rfl
            obtain ⟨yk, yx, yn, yt⟩ := y
            simp only at d0 d1 d2 d3 hlk
            cases hpb
            have cH := fun W (hW : Below w6.heap.size w6 W) => has_any v' (jn (chC true) A B) yk W (RowA.below HR.out hW) (by have := hJl.out; omega)
            rw [hlk] at cH
            simp only [Option.getD_some, Option.isSome_some] at cH
            have bk1 := bk.alloc bk.size (.cells #[.string yk, .int .i64 yx, .int .i64 yn, .string yt] 106)
            clear hlk hy hp
            go_wp2_with fail
            refine (cH _ bk1).mono ?_; rintro r w8 ⟨rfl, b10⟩
            have bk2 := bk1.trans (b10.mono bk1.size)
            go_wp2_with fail
            go_roundw
            case rel => exact ⟨rfl, k + 1, by omega, by go_num, bk2.alloc bk2.size _⟩
            case measure => simp [RowKit.intOf]; omega
          · have hltI : ¬ (k : Int) < m := by omega
            have OK : Hid (OwnA wr w.heap.size v' (jn (chC true) A B)) := owns_below OJ.out bk
            go_wp2
            go_ret
            exact ⟨_, rfl, OK.out, b8.trans (bk.mono b8.size)⟩
end Go.Proofs.YtfllomfjhkgaoaaGreatDoor

/- The document's answers of the attrs' calls as joins. -/
namespace Go.Proofs.YtfllomfjhkgaoaaGreatDoor
open Go Go.RowKit Go.Lib
set_option linter.unusedVariables false

def fm (g : A2 → Option P3) (L : List A2) : List A2 := L.filterMap fun x => (g x).map fun v => (x.1, v)
theorem fm_mem {g : A2 → Option P3} {L : List A2} {q : A2} (h : q ∈ fm g L) : ∃ x ∈ L, x.1 = q.1 ∧ g x = some q.2 := by
  obtain ⟨x, hx, e⟩ := List.mem_filterMap.1 h
  obtain ⟨v, hv, rfl⟩ := Option.map_eq_some_iff.1 e
  exact ⟨x, hx, rfl, hv⟩
theorem up_fm {g : A2 → Option P3} {L : List A2} (h : Up L) : Up (fm g L) := by
  unfold fm
  refine List.Pairwise.filterMap _ (R := fun x y : A2 => kc x.1 y.1 < 0) (S := fun x y : A2 => kc x.1 y.1 < 0) (fun a a' hr b hb b' hb' => ?_) h
  obtain ⟨v, hv, rfl⟩ := Option.map_eq_some_iff.1 hb
  obtain ⟨v', hv', rfl⟩ := Option.map_eq_some_iff.1 hb'
  exact hr
theorem look_fm {g : A2 → Option P3} (k : ByteArray) : ∀ {L : List A2}, Up L → look k (fm g L) = (look k L).bind fun v => g (k, v)
  | [], _ => rfl
  | (j, u) :: L, h => by
    have ih := look_fm (g := g) k (L := L) (List.Pairwise.of_cons h)
    have hc : fm g ((j, u) :: L) = ((g (j, u)).map fun v => (j, v)).toList ++ fm g L := by
      unfold fm
      rw [List.filterMap_cons]
      cases g (j, u) <;> rfl
    rw [hc, look]
    by_cases e : j = k
    · subst e
      rw [if_pos rfl]
      have h0 : look j L = none := look_above fun q hq => List.rel_of_pairwise_cons h hq
      rw [h0] at ih
      cases e2 : g (j, u) with
      | none => simp only [Option.map_none, Option.toList_none, List.nil_append, ih]; exact e2.symm
      | some v => show look j ((j, v) :: fm g L) = _; rw [look, if_pos rfl]; exact e2.symm
    · rw [if_neg (show ¬ (j, u).1 = k from e), ← ih]
      cases e2 : g (j, u) with
      | none => rfl
      | some v => show look k ((j, v) :: fm g L) = _; rw [look, if_neg (show ¬ (j, v).1 = k from e)]
theorem filter_fm (p : A2 → Bool) (L : List A2) : L.filter p = fm (fun q => if p q then some q.2 else none) L := by
  unfold fm
  induction L with
  | nil => rfl
  | cons q L ih =>
    rw [List.filter_cons, List.filterMap_cons, ih]
    by_cases h : p q = true <;> simp [h]
theorem whole_eq {a b : List A2} (ha : Up a) (hb : Up b) : wholeL (jn (chC true) a b) = jn (chC false) a b := by
  unfold wholeL
  rw [filter_fm]
  refine up_ext (up_fm (up_join _ ha hb)) (up_join _ ha hb) fun k => ?_
  rw [look_fm k (up_join _ ha hb), look_join _ ha hb, look_join _ ha hb]
  cases look k a <;> cases look k b <;> simp [at2, fOf, chC]
theorem over_eq {a b : List A2} (first : Bool) (ha : Up a) (hb : Up b) : overL a first b = jn (chT first) a b := by
  unfold overL
  rw [filter_fm]
  refine up_ext (up_fm hb) (up_join _ ha hb) fun k => ?_
  rw [look_fm k hb, look_join _ ha hb]
  cases first <;> cases e : look k a <;> cases look k b <;> simp [at2, fOf, chT, e]
theorem bet_eq {a b : List A2} (ha : Up a) (hb : Up b) : betL a b (jn (chC true) a b) = jn chD a b := by
  have e : ∀ J, betL a b J = fm (fun x => if (look x.1 a).getD z0 = (look x.1 b).getD z0 then none else some ((look x.1 b).getD z0)) J := fun J => by
    unfold betL fm
    congr 1
    funext x
    by_cases h : (look x.1 a).getD z0 = (look x.1 b).getD z0 <;> simp [h]
  rw [e]
  refine up_ext (up_fm (up_join _ ha hb)) (up_join _ ha hb) fun k => ?_
  rw [look_fm k (up_join _ ha hb), look_join _ ha hb, look_join _ ha hb]
  have hs : ∀ p q : P3, samP p q = decide (p = q) := fun p q => by
    by_cases h : p = q
    · rw [h, samP_self]; simp
    · rw [samP_ne h]; simp [h]
  cases ea : look k a <;> cases eb : look k b <;> simp [at2, fOf, chC, chD, hs, ea, eb]
theorem und_eq {s p : List A2} (hs : Up s) (hp : Up p) (ns : NoNull s) (pn : ∀ q ∈ p, q.2.1 = 0 → q.2 = z0) : jn chD (jn (chC false) s p) s = jn chI p s := by
  refine up_ext (up_join _ (up_join _ hs hp) hs) (up_join _ hp hs) fun k => ?_
  rw [look_join _ (up_join _ hs hp) hs, look_join _ hs hp, look_join _ hp hs]
  cases es : look k s with
  | none =>
    cases ep : look k p with
    | none => simp [at2]
    | some v =>
      by_cases h1 : v.1 = 0
      · have hv : v = z0 := pn (k, v) (look_mem ep) h1
        subst hv
        simp [at2, fOf, chC, chI, samP_self]; simp [z0]
      · simp [at2, fOf, chC, chI, chD, h1]
  | some u =>
    have hu := nn_look ns es
    cases ep : look k p with
    | none => simp [at2, fOf, chC, chI, chD, hu, samP_self]
    | some v =>
      by_cases h1 : v.1 = 0
      · have hv : v = z0 := pn (k, v) (look_mem ep) h1
        subst hv
        simp [at2, fOf, chC, chI, chD, h1]
      · simp [at2, fOf, chC, chI, chD, h1]
end Go.Proofs.YtfllomfjhkgaoaaGreatDoor

/- What vellumref03.Between answers. -/
namespace Go.Proofs.YtfllomfjhkgaoaaGreatDoor
open Go Go.RowKit Go.Lib
set_option linter.unusedVariables false

/-- Between two marks the memory stands. -/
structure Mid (c : Nat) (u w : World) : Prop where
  size : u.heap.size ≤ w.heap.size
  cell : ∀ g i, c < g → g < u.heap.size → w.cell? ⟨g, i, none⟩ = u.cell? ⟨g, i, none⟩
theorem Mid.refl (c : Nat) (u : World) : Mid c u u := ⟨Nat.le_refl _, fun _ _ _ _ => rfl⟩
theorem Mid.below {c : Nat} {u w w' : World} (h : Mid c u w) (b : Below w.heap.size w w') : Mid c u w' :=
  ⟨Nat.le_trans h.size b.size, fun g i h1 h2 => (b.cell (Nat.lt_of_lt_of_le h2 h.size)).trans (h.cell g i h1 h2)⟩
theorem Mid.alloc {c : Nat} {u w : World} (h : Mid c u w) (o : Obj) : Mid c u (w.alloc o) := h.below ((Below.refl _ _).alloc (Nat.le_refl _) o)
theorem Mid.grown {c : Nat} {u w w' : World} {row : Option Nat} (h : Mid c u w) (g : w.grownBy w' row) (hr : ∀ r, row = some r → r = c ∨ u.heap.size ≤ r) : Mid c u w' :=
  ⟨Nat.le_trans h.size g.size, fun k i h1 h2 => (World.cell?_of_block (a := ⟨k, i, none⟩) (g.block k (Nat.lt_of_lt_of_le h2 h.size) (fun e => by have := hr k e.symm; omega))).trans (h.cell k i h1 h2)⟩
theorem PairAt.mid {c : Nat} {u w : World} {b o : Nat} {q : A2} (h : PairAt u b o q) (m : Mid c u w) (hb : c < b) : PairAt w b o q :=
  ⟨(m.cell _ _ hb h.lt).trans h.c0, (m.cell _ _ hb h.lt).trans h.c1, (m.cell _ _ hb h.lt).trans h.c2, (m.cell _ _ hb h.lt).trans h.c3⟩

end Go.Proofs.YtfllomfjhkgaoaaGreatDoor

/- What vellumref03.Compose, Apply, Diff, Invert and Transform answer. -/
namespace Go.Proofs.YtfllomfjhkgaoaaGreatDoor
open Go Go.RowKit Go.Lib
set_option linter.unusedVariables false

/-- A nil slice is empty and has no room. -/
abbrev NilZ (v : Value) : Prop := ∀ m c, v = .slice none m c → m = 0 ∧ c = 0
theorem wholeL_len (L : List A2) : (wholeL L).length ≤ L.length := List.length_filter_le _ _

theorem patched_any (va vb : Value) (A B : List A2) (w : World) (hA : RowA w va A) (hB : RowA w vb B) (zB : NilZ vb) (uA : Up A) (uB : Up B) (hl : A.length + B.length ≤ 1048576) :
    Calls Tryz.prog 59 #[va, vb] w fun r w' => ∃ v', r = .returned v' ∧ OwnA w' w.heap.size v' (jn (chC false) A B) ∧ Below w.heap.size w w' := by
  have cJ := join_ref va vb A B w hA hB zB uA uB hl
  have cW := fun W (v : Value) (hv : RowA W v (jn (chC true) A B)) => whole_any v (jn (chC true) A B) W hv (by have := jn_len (chC true) A B; omega)
  rw [whole_eq uA uB] at cW
  obtain ⟨pa, ca, rfl, _⟩ := hA.val
  obtain ⟨pb, cb, rfl, _⟩ := hB.val
  clear hA hB uA uB hl zB
  go_enter Tryz.func59, Tryz.ntmps59
  go_wp2_with fail
  refine cJ.mono ?_; rintro r w2 ⟨v', rfl, own, hb2⟩
  have cW' := cW w2 v' (own_rowA own)
  clear cJ cW own
  go_wp2_with fail
  refine cW'.mono ?_; rintro r w3 ⟨v2, rfl, own, hb3⟩
  have HO : Hid _ := own
  clear own
  go_wp2
  go_ret
  exact ⟨_, rfl, own_weaken HO.out hb2.size, hb2.trans (hb3.mono hb2.size)⟩

end Go.Proofs.YtfllomfjhkgaoaaGreatDoor

/- vellumlaw06.edited: cells, edited by operations. -/
namespace Go.Proofs.YtfllomfjhkgaoaaGreatDoor
open Go Go.RowKit Go.Lib
set_option linter.unusedVariables false

/-- Cells in memory: each list is one that was there, or one of the call's own. -/
def AreM (w0 w : World) (B : Nat) (D : List CV) (E : List C5) : Prop := All2 (fun (d : CV) (e : C5) => d.1 = e.1 ∧ d.2.1 = e.2.1 ∧ d.2.2.1 = e.2.2.1 ∧ (RN w0 (slV d.2.2.2) e.2.2.2 ∨ OwnA w B (slV d.2.2.2) e.2.2.2)) D E
theorem AreM.keep {w0 w w' : World} {B : Nat} {D : List CV} {E : List C5} (h : AreM w0 w B D E) (k : KeepA w w') : AreM w0 w' B D E := All2.imp (fun d e h => ⟨h.1, h.2.1, h.2.2.1, h.2.2.2.imp id fun o => keepA_own o k⟩) h
theorem AreM.of {w0 w : World} {B : Nat} {D : List CV} {E : List C5} (h : Are w0 D E) : AreM w0 w B D E := All2.imp (fun d e h => ⟨h.1, h.2.1, h.2.2.1, Or.inl h.2.2.2⟩) h
theorem AreM.are {w0 w : World} {B : Nat} {D : List CV} {E : List C5} (h : AreM w0 w B D E) (b : Below w0.heap.size w0 w) : Are w D E := All2.imp (fun d e h => ⟨h.1, h.2.1, h.2.2.1, h.2.2.2.elim (fun r => r.below b) own_RN⟩) h
/-- The state of an edit: what came of the first operations, how many cells they reached. -/
def StE (U : List U6) (L xs : List C5) (m : Nat) : Prop := m ≤ L.length ∧ runU U L = some (xs, L.drop m)
theorem stE_ins {U : List U6} {L xs : List C5} {m : Nat} (h : StE U L xs m) (cs : List C5) : StE (U ++ cs.map .ins) L (xs ++ cs) m := by
  refine ⟨h.1, ?_⟩
  rw [run_append, h.2]
  show ((runU (cs.map .ins) (L.drop m)).map _) = _
  have : ∀ (cs rest : List C5), runU (cs.map .ins) rest = some (cs, rest) := fun cs rest => by
    induction cs with
    | nil => rfl
    | cons c r ih => show (runU (r.map .ins) rest).map _ = _; rw [ih]; rfl
  rw [this]; rfl
theorem stE_keep {U : List U6} {L xs : List C5} {m : Nat} {c : C5} {A : List A2} (h : StE U L xs m) (hc : L[m]? = some c) : StE (U ++ [.keep A]) L (xs ++ [patC c A]) (m + 1) := by
  have hm := (List.getElem?_eq_some_iff.1 hc).1
  have hd : L.drop m = c :: L.drop (m + 1) := by rw [List.drop_eq_getElem_cons hm]; congr 1; exact (List.getElem?_eq_some_iff.1 hc).2
  refine ⟨hm, ?_⟩
  rw [run_append, h.2, hd]; rfl
theorem stE_del {U : List U6} {L xs : List C5} {m : Nat} {c : C5} (h : StE U L xs m) (hc : L[m]? = some c) : StE (U ++ [.del]) L xs (m + 1) := by
  have hm := (List.getElem?_eq_some_iff.1 hc).1
  have hd : L.drop m = c :: L.drop (m + 1) := by rw [List.drop_eq_getElem_cons hm]; congr 1; exact (List.getElem?_eq_some_iff.1 hc).2
  refine ⟨hm, ?_⟩
  rw [run_append, h.2, hd]
  show some (xs ++ [], _) = _
  rw [List.append_nil]
theorem run_short (u : U6) (hu : u = .del ∨ ∃ A, u = .keep A) : ∀ (n : Nat) (L : List C5) (V : List U6), L.length < n → runU (List.replicate n u ++ V) L = none
  | 0, L, V, h => by omega
  | n + 1, [], V, _ => by
    rw [List.replicate_succ]
    rcases hu with rfl | ⟨A, rfl⟩ <;> rfl
  | n + 1, c :: L, V, h => by
    have ih := run_short u hu n L V (by simp at h; omega)
    rw [List.replicate_succ]
    rcases hu with rfl | ⟨A, rfl⟩
    · show runU (List.replicate n .del ++ V) L = none; exact ih
    · show (runU (List.replicate n (.keep A) ++ V) L).map _ = none; rw [ih]; rfl
theorem stE_short {U : List U6} {L xs : List C5} {m n : Nat} {u : U6} (h : StE U L xs m) (hu : u = .del ∨ ∃ A, u = .keep A) (hn : L.length - m < n) (V : List U6) : edit (U ++ (List.replicate n u ++ V)) L = none := by
  unfold edit
  rw [run_append, h.2]
  show (((runU (List.replicate n u ++ V) (L.drop m)).map _)).map _ = none
  rw [run_short u hu n (L.drop m) V (by rw [List.length_drop]; exact hn)]; rfl
theorem stE_end {U : List U6} {L xs : List C5} {m : Nat} (h : StE U L xs m) : edit U L = some (xs ++ L.drop m) := by unfold edit; rw [h.2]; rfl
theorem stE_zero (L : List C5) : StE [] L [] 0 := ⟨Nat.zero_le _, rfl⟩
end Go.Proofs.YtfllomfjhkgaoaaGreatDoor

/- vellumlaw06.edited: the walk. -/
namespace Go.Proofs.YtfllomfjhkgaoaaGreatDoor
open Go Go.RowKit Go.Lib
set_option linter.unusedVariables false

/-- What edited answers. -/
def EdR (w' : World) (U : List U6) (L : List C5) (r : Ending) : Prop :=
  (∃ xs, edit U L = some xs ∧ ∃ v', r = .returned (.tuple #[v', .bool true]) ∧ ∃ D', RowC w' v' D' ∧ Are w' D' xs) ∨ (edit U L = none ∧ r = .returned (.tuple #[.slice none 0 0, .bool false]))
theorem keep_op {w w' : World} {B : Nat} {v : Value} {D : List CV} (h : OwnC w B v D) (g : w.grownBy w' v.ownBlock) {k : Nat} {cur : Array Value} (hk : w.heap[k]? = some (.cells cur 48 (0, 0))) : w'.heap[k]? = some (.cells cur 48 (0, 0)) := by
  rw [g.block k (Array.getElem?_eq_some_iff.1 hk).1 (fun e => ?_)]
  · exact hk
  · obtain ⟨_, cur', hc⟩ := owns_block h k e.symm
    rw [hk] at hc
    simp only [Option.some.injEq, Obj.cells.injEq] at hc
    exact absurd hc.2.1 (by decide)
theorem cells_len_le {o : Op5} (hi : Ins o) : (cellsOf o).length ≤ o.t.size := by
  unfold cellsOf
  rcases hi.kind with ⟨hk, h⟩ | ⟨hk, h⟩
  · rw [if_pos hk, mkC_len]; exact (valid_text o.t hi.utf).2.2
  · rw [if_neg (by omega)]
    show 1 ≤ _
    have hne : o.t ≠ ⟨#[]⟩ := fun e => by have := hi.full; rw [emp_iff.2 e] at this; cases this
    rcases Nat.eq_zero_or_pos o.t.size with h0 | h0
    · exfalso
      apply hne
      cases ht : o.t with
      | mk d => rw [ht] at h0; rw [Array.eq_empty_of_size_eq_zero (show d.size = 0 from h0)]
    · exact h0
theorem all2_drop {α β : Type} {R : α → β → Prop} : ∀ (m : Nat) {a : List α} {b : List β}, All2 R a b → All2 R (a.drop m) (b.drop m)
  | 0, _, _, h => by rw [List.drop_zero, List.drop_zero]; exact h
  | m + 1, _, _, .nil => .nil
  | m + 1, _, _, .cons _ t => all2_drop m t
set_option maxHeartbeats 40000000 in
set_option maxRecDepth 100000 in
theorem edited_any {w0 : World} (va vc : Value) (E : List Op5) (L : List C5) (D0 : List OV) (Dc : List CV) (w : World) (hb0 : Below w0.heap.size w0 w) (hrow : RowO w va D0) (hre : ReD w0 D0 E) (hrc : RowC w vc Dc) (hac : Are w0 Dc L) (hg : ∀ o ∈ E, opE o = 0) (hF : FitL E) (ht : txtS E ≤ 8388608) (hl : E.length ≤ 1048576) (hL : L.length ≤ 1048576) (uL : ∀ c ∈ L, Up c.2.2.2) (uE : ∀ o ∈ E, Up o.A) (hsum : ∀ o ∈ E, ∀ c ∈ L, c.2.2.2.length + o.A.length ≤ 1048576) :
    Calls Tryz.prog 27 #[va, vc] w fun r w' => EdR w' (units E) L r ∧ Below w.heap.size w w' := by
  have hDE := forall2_len hre
  have hDL := forall2_len hac
  obtain ⟨n, hn⟩ : ∃ n, E.length = n := ⟨_, rfl⟩
  obtain ⟨l, hll⟩ : ∃ l, L.length = l := ⟨_, rfl⟩
  obtain ⟨p, cap, rfl, hcap, hnz, hc⟩ := hrow
  have HR : Hid (∀ k, k < n → ∃ (e : Op5) (b off : Nat) (sp : Option Addr) (sl sc : Nat), E[k]? = some e ∧ p = some ⟨b, off, none⟩ ∧ OpAt w b (off + k * 7) (e.k, e.t, e.v, e.c, (sp, sl, sc)) ∧ RN w0 (.slice sp sl sc) e.A) := fun k hk => by
    obtain ⟨d, hd⟩ : ∃ d, D0[k]? = some d := ⟨_, List.getElem?_eq_getElem (by omega)⟩
    obtain ⟨e, he, h1, h2, h3, h4, h5⟩ := forall2_get hre k d hd
    obtain ⟨b, off, hp, hat⟩ := hc k d hd
    obtain ⟨dk, dt, dv, dc, sp, sl, sc⟩ := d
    simp only at h1 h2 h3 h4
    subst h1; subst h2; subst h3; subst h4
    exact ⟨e, b, off, sp, sl, sc, he, hp, hat, h5⟩
  obtain ⟨q, qc, rfl, hqc, hqn, hqr⟩ := hrc
  have HC : Hid (∀ j, j < l → ∃ (c : C5) (b off : Nat) (sp : Option Addr) (sl sc : Nat), L[j]? = some c ∧ q = some ⟨b, off, none⟩ ∧ (∀ W, Below w.heap.size w W → W.cell? ⟨b, off + j * 6, none⟩ = some (.int .i32 c.1) ∧ W.cell? ⟨b, off + j * 6 + 1, none⟩ = some (.string c.2.1) ∧ W.cell? ⟨b, off + j * 6 + 2, none⟩ = some (.int .i64 c.2.2.1.1) ∧ W.cell? ⟨b, off + j * 6 + 3, none⟩ = some (.int .i64 c.2.2.1.2.1) ∧ W.cell? ⟨b, off + j * 6 + 4, none⟩ = some (.string c.2.2.1.2.2) ∧ W.cell? ⟨b, off + j * 6 + 5, none⟩ = some (.slice sp sl sc)) ∧ RN w0 (.slice sp sl sc) c.2.2.2) := fun j hj => by
    obtain ⟨d, hd⟩ : ∃ d, Dc[j]? = some d := ⟨_, List.getElem?_eq_getElem (by omega)⟩
    obtain ⟨c, he, h1, h2, h3, h5⟩ := forall2_get hac j d hd
    obtain ⟨b, off, hp, hin⟩ := hqr (by intro e; rw [e] at hd; simp at hd)
    obtain ⟨x0, x1, x2, x3, x4, x5⟩ := cellsC_get Dc j d hd
    obtain ⟨dk, dt, dv, sp, sl, sc⟩ := d
    simp only at h1 h2 h3
    subst h1; subst h2; subst h3
    refine ⟨c, b, off, sp, sl, sc, he, hp, fun W hW => ?_, h5⟩
    have c0 := (hin.below hW) _ _ x0
    have c1 := (hin.below hW) _ _ x1
    have c2 := (hin.below hW) _ _ x2
    have c3 := (hin.below hW) _ _ x3
    have c4 := (hin.below hW) _ _ x4
    have c5 := (hin.below hW) _ _ x5
    simp only [← Nat.add_assoc] at c0 c1 c2 c3 c4 c5
    exact ⟨c0, c1, c2, c3, c4, c5⟩
  have HN : Hid (E.length = n ∧ L.length = l ∧ FitL E ∧ (∀ o ∈ E, opE o = 0) ∧ txtS E ≤ 8388608) := ⟨hn, hll, hF, hg, ht⟩
  have HU : Hid ((∀ c ∈ L, Up c.2.2.2) ∧ (∀ o ∈ E, Up o.A) ∧ (∀ o ∈ E, ∀ c ∈ L, c.2.2.2.length + o.A.length ≤ 1048576) ∧ Below w0.heap.size w0 w) := ⟨uL, uE, hsum, hb0⟩
  have HRC : Hid ((∀ W, Below w.heap.size w W → Dc ≠ [] → ∃ b off, q = some ⟨b, off, none⟩ ∧ InC W b off Dc) ∧ (q = none → qc = 0) ∧ Dc.length = l ∧ Are w0 Dc L ∧ l ≤ qc) := ⟨fun W hW h => by obtain ⟨b, off, h1, h2⟩ := hqr h; exact ⟨b, off, h1, h2.below hW⟩, hqn, by omega, hac, by omega⟩
  have hnl : n ≤ 1048576 := by omega
  have hll2 : l ≤ 1048576 := by omega
  rw [hDL, hll] at hqc
  rw [hDE, hn] at hcap
  rw [hDE, hn, hDL, hll]
  clear hc hqr hDE hDL hre hac hnz hqn hn hll hF hg ht hl hL uL uE hsum hb0
  have o0 := own_emptyC w w.heap.size (Nat.le_refl _)
  have b0 := (Below.refl w.heap.size w).alloc (Nat.le_refl _) (.cells #[] 59)
  obtain ⟨W0, hW0⟩ : ∃ W, W = w.alloc (.cells #[] 59) := ⟨_, rfl⟩
  obtain ⟨v0, hv0⟩ : ∃ v0 : Value, v0 = .slice (some ⟨w.heap.size, 0, none⟩) 0 0 := ⟨_, rfl⟩
  rw [← hW0, ← hv0] at o0
  rw [← hW0] at b0
  go_enter Tryz.func27, Tryz.ntmps27
  go_wp2
  rw [← hW0, ← hv0]
  clear hW0 hv0
  go_loopw [6, 7, 15] (fun out at_ i wr => ∃ (k m : Nat) (xs : List C5) (Do : List CV), k ≤ n ∧ m ≤ l ∧ i = .int .i64 k ∧ at_ = .int .i64 m ∧ OwnC wr w.heap.size out Do ∧ Hid (AreM w0 wr w.heap.size Do xs ∧ StE (units (E.take k)) L xs m ∧ xs.length ≤ txtS (E.take k) + m) ∧ Below w.heap.size w wr) (fun _ _ i _ => n - (RowKit.intOf i).toNat)
  case atStart => exact ⟨0, 0, [], [], Nat.zero_le _, Nat.zero_le _, rfl, rfl, o0, ⟨.nil, stE_zero L, Nat.zero_le _⟩, b0⟩
  case round =>
    clear o0 b0
    obtain ⟨k, m, xs, Do, hk, hm, rfl, rfl, hown, HS, hbw⟩ := hrel
    by_cases hlt : k < n
    · have hltI : (k : Int) < n := by omega
      obtain ⟨e, b, off, sp, sl, sc, he, rfl, hat, hrn⟩ := HR.out k hlt
      have hem := List.mem_of_getElem? he
      have hfe := HN.out.2.2.1 e hem
      have hz := HN.out.2.2.2.1 e hem
      have hT : E.take (k + 1) = E.take k ++ [e] := by rw [List.take_add_one, he]; rfl
      have HT : Hid (E.take (k + 1) = E.take k ++ [e] ∧ units E = units (E.take k) ++ (unitsO e ++ units (E.drop (k + 1)))) := ⟨hT, by
        have h1 := List.take_append_drop (k + 1) E
        rw [hT] at h1
        rw [← h1, units_append, units_append, units_one, List.append_assoc, h1]⟩
      obtain ⟨c0, c1, c2, c3, c4, c5, c6⟩ := hat.below hbw
      have bw : Below wr.heap.size wr (wr.alloc (.cells (opC e (.slice sp sl sc)) 48)) := (Below.refl _ _).alloc (Nat.le_refl _) _
      have cI := ins6_any e sp sl sc (wr.alloc (.cells (opC e (.slice sp sl sc)) 48))
      have hbx : (wr.alloc (.cells (opC e (.slice sp sl sc)) 48)).heap[wr.heap.size]? = some (.cells (opC e (.slice sp sl sc)) 48 (0, 0)) := heap_alloc_new wr _
      have HX : Hid (∀ W, Below (wr.alloc (.cells (opC e (.slice sp sl sc)) 48)).heap.size (wr.alloc (.cells (opC e (.slice sp sl sc)) 48)) W → OpAt W wr.heap.size 0 (e.k, e.t, e.v, e.c, (sp, sl, sc)) ∧ Below wr.heap.size wr W ∧ W.heap[wr.heap.size]? = some (.cells (opC e (.slice sp sl sc)) 48 (0, 0))) := fun W hW => ⟨OpAt.below (w := wr.alloc (.cells (opC e (.slice sp sl sc)) 48)) ⟨by simp [opC], by simp [opC], by simp [opC], by simp [opC], by simp [opC], by simp [opC], by simp [opC, slV]⟩ hW, bw.trans (hW.mono bw.size), (hW.block _ (Array.getElem?_eq_some_iff.1 hbx).1).trans hbx⟩
      have HO := Hid.mk' hown
      have hge : Hid (∀ k, u6.ownBlock = some k → w.heap.size ≤ k) := fun k hk => (owns_block hown k hk).1
      have hDx := forall2_len HS.out.1
      by_cases hi : e.k = 1 ∨ e.k = 2
      · have hins : Ins e := by rcases op_good hz with ⟨h, _⟩ | ⟨_, _, h⟩ | ⟨_, _, h⟩; exact h; omega; omega
        rw [decide_eq_true hi] at cI
        have hcl := cells_len_le hins
        have htk := txtS_take E (k + 1)
        have htk2 := txtS_append (E.take k) [e]
        rw [txtS_one, ← hT] at htk2
        have hle : (cellsOf e).length + Do.length ≤ 33554432 ∧ xs.length + (cellsOf e).length ≤ txtS (E.take (k + 1)) + m := by have := HS.out.2.2; have := HN.out.2.2.2.2; omega
        have HLE := Hid.mk' hle
        have HUO : Hid (unitsO e = (cellsOf e).map .ins) := by show _ = _; unfold unitsO; rw [if_pos hi]
        have cC := fun W => came_any e sp sl sc W hrn hins hfe.t
        clear hem hfe hz hat hrn hown bw HR hi hins hcl htk htk2 hle hbx he hT
        obtain ⟨CE, hCE⟩ : ∃ x, cellsOf e = x := ⟨_, rfl⟩
        obtain ⟨UE, hUE⟩ : ∃ x, unitsO e = x := ⟨_, rfl⟩
        have HUT : Hid (units (E.take (k + 1)) = units (E.take k) ++ UE) := by show _ = _; rw [HT.out.1, units_append, units_one, hUE]
        rw [hCE] at HLE HUO cC
        rw [hUE] at HUO
        clear hCE hUE HT
        obtain ⟨kk, t, ⟨xx, nn, u⟩, cc, A⟩ := e
        simp only [opC, slV] at c0 c1 c2 c3 c4 c5 c6 cI cC HX
        go_wp2_with fail
        refine cI.mono ?_; rintro r w1 ⟨rfl, hw1⟩
        obtain ⟨⟨d0, d1, d2, d3, d4, d5, d6⟩, b1, _⟩ := HX.out w1 hw1
        simp only [Nat.zero_add, slV] at d0 d1 d2 d3 d4 d5 d6
        have cc1 := cC w1
        clear cI cC hw1 HX c0 c1 c2 c3 c4 c5 c6
        go_wp2_with fail
        refine cc1.mono ?_; rintro r w2 ⟨v2, rfl, ⟨D2, own2, are2⟩, hw2⟩
        have b2 := b1.trans (hw2.mono b1.size)
        have hl2 := forall2_len are2
        have HO2 : Hid (OwnC w2 w.heap.size u6 Do ∧ RowC w2 v2 D2 ∧ Do.length + D2.length ≤ 33554432 ∧ w.heap.size ≤ w2.heap.size) := ⟨owns_below HO.out b2, own_rowC own2, by rw [hl2]; have := HLE.out.1; omega, Nat.le_trans hbw.size b2.size⟩
        have HA2 : Hid (AreM w0 w2 w.heap.size (Do ++ D2) (xs ++ CE)) := forall2_append (HS.out.1.keep (keepA_below b2)) (AreM.of are2)
        have bw2 := hbw.trans (b2.mono hbw.size)
        clear cc1 own2 are2 hw2 hl2 b1 b2 d0 d1 d2 d3 d4 d5 d6 HO
        go_wp2_with (at_builtin; refine wpList_append_cells rfl (.tmp 21) (.tmp 23) rfl w.heap.size u6 Do rfl HO2.out.1 v2 D2 rfl HO2.out.2.1 HO2.out.2.2.1 HO2.out.2.2.2 ?_; intro v' w7 own7 gr7; have b7 : Below w.heap.size w w7 := bw2.grown gr7 bw2.size (fun k hk => hge.out k hk); have HA7 : Hid (AreM w0 w7 w.heap.size (Do ++ D2) (xs ++ CE) ∧ OwnC w7 w.heap.size v' (Do ++ D2)) := ⟨HA2.out.keep (keepA_grown HO2.out.1 gr7), own7⟩; clear own7 gr7 HO2 HA2)
        go_roundw
        case rel => exact ⟨k + 1, m, _, _, by omega, hm, by go_num, rfl, HA7.out.2, ⟨HA7.out.1, by rw [HUT.out, HUO.out]; exact stE_ins HS.out.2.1 CE, by rw [List.length_append]; exact HLE.out.2⟩, b7⟩
        case measure => simp [RowKit.intOf]; omega
      · have hk34 : e.k = 3 ∨ e.k = 4 := by have := kinds_of hz; omega
        rw [decide_eq_false hi] at cI
        have hw := wel_of hz
        have hc1 := hw.count hk34
        obtain ⟨cn, hcn⟩ : ∃ c : Nat, e.c = (c : Int) := ⟨e.c.toNat, by omega⟩
        have htx : txtS (E.take k) ≤ txtS (E.take (k + 1)) := by rw [hT, txtS_append]; omega
        have HTX := Hid.mk' htx
        obtain ⟨bx, hbxs⟩ : ∃ b, wr.heap.size = b := ⟨_, rfl⟩
        have huA := HU.out.2.1 e hem
        have HSM : Hid (Up e.A ∧ (∀ c ∈ L, c.2.2.2.length + e.A.length ≤ 1048576) ∧ RN w0 (.slice sp sl sc) e.A) := ⟨huA, fun c hc => HU.out.2.2.1 e hem c hc, hrn⟩
        rcases hk34 with hk3 | hk4
        · have HUO : Hid (unitsO e = List.replicate cn (U6.keep e.A)) := by show _ = _; unfold unitsO; rw [if_neg hi, if_pos hk3, hcn]; rfl
          have HUT : Hid (units (E.take (k + 1)) = units (E.take k) ++ List.replicate cn (U6.keep e.A)) := by show _ = _; rw [hT, units_append, units_one, HUO.out]
          have HUE : Hid (units E = units (E.take k) ++ (List.replicate cn (U6.keep e.A) ++ units (E.drop (k + 1)))) := by show _ = _; rw [HT.out.2, HUO.out]
          clear hem hfe hz hat hrn bw hi hbx he hT hw huA htx HT HUO hDx
          obtain ⟨kk, t, ⟨xx, nn, u⟩, cc, A⟩ := e
          simp only at hcn hk3
          subst hcn; subst hk3
          simp only [opC, slV] at c0 c1 c2 c3 c4 c5 c6 cI HX
          rw [hbxs] at HX
          go_wp2_with fail
          refine cI.mono ?_; rintro r w1 ⟨rfl, hw1⟩
          obtain ⟨⟨d0, d1, d2, d3, d4, d5, d6⟩, b1, hb1⟩ := HX.out w1 hw1
          simp only [Nat.zero_add, slV] at d0 d1 d2 d3 d4 d5 d6
          have bw1 := hbw.trans (Below.mono (by rw [hbxs]; exact b1) hbw.size)
          have own1 : OwnC w1 w.heap.size u6 Do := owns_below hown (by rw [hbxs]; exact b1)
          have KA : Hid (KeepA wr w1) := keepA_below (by rw [hbxs]; exact b1)
          clear cI hw1 HX c0 c1 c2 c3 c4 c5 c6 b1 hown HO hge hbw hbxs
          by_cases hcmp : l - m < cn
          · have hcI : (l : Int) - (m : Int) < (cn : Int) := by omega
            have HSH : Hid (edit (units E) L = none) := by show _ = _; rw [HUE.out]; exact stE_short HS.out.2.1 (Or.inr ⟨_, rfl⟩) (by rw [HN.out.2.1]; exact hcmp) _
            clear hb1 own1 KA HR HC
            go_wp2
            go_ret2
            exact ⟨Or.inr ⟨HSH.out, rfl⟩, bw1⟩
          have hcI : ¬ (l : Int) - (m : Int) < (cn : Int) := by omega
          clear HR
          go_wp2
          go_loopw [6, 7, 10] (fun out at_ j wr2 => ∃ (jn : Nat) (xs : List C5) (Do : List CV), jn ≤ cn ∧ j = .int .i64 jn ∧ at_ = .int .i64 ((m : Int) + (jn : Int)) ∧ OwnC wr2 w.heap.size out Do ∧ Hid (AreM w0 wr2 w.heap.size Do xs ∧ StE (units (E.take k) ++ List.replicate jn (U6.keep A)) L xs (m + jn) ∧ xs.length ≤ txtS (E.take (k + 1)) + (m + jn)) ∧ Below w.heap.size w wr2 ∧ wr2.heap[bx]? = some (.cells #[.int .i64 3, .string t, .int .i64 xx, .int .i64 nn, .string u, .int .i64 (cn : Int), .slice sp sl sc] 48 (0, 0))) (fun _ _ j _ => cn - (RowKit.intOf j).toNat)
          case atStart => exact ⟨0, xs, Do, Nat.zero_le _, rfl, by simp, own1, ⟨HS.out.1.keep KA.out, by rw [List.replicate_zero, List.append_nil]; exact HS.out.2.1, by have := HS.out.2.2; have := HTX.out; omega⟩, bw1, hb1⟩
          case round =>
            clear own1 bw1 hb1 d0 d1 d2 d3 d4 d5 d6
            obtain ⟨jn, xs, Do, hjn, rfl, rfl, own, HI, bwr, hbx⟩ := hrel
            have e0 : wr.cell? ⟨bx, 0, none⟩ = some (.int .i64 3) := by rw [cell_of_heap hbx]; rfl
            have e5 : wr.cell? ⟨bx, 5, none⟩ = some (.int .i64 (cn : Int)) := by rw [cell_of_heap hbx]; rfl
            have e6 : wr.cell? ⟨bx, 6, none⟩ = some (.slice sp sl sc) := by rw [cell_of_heap hbx]; rfl
            by_cases hjl : jn < cn
            · have hjI : (jn : Int) < (cn : Int) := by omega
              have hml : (m : Int) + (jn : Int) < (l : Int) := by omega
              have hm0 : (0 : Int) ≤ (m : Int) + (jn : Int) := by omega
              have hmt : ((m : Int) + (jn : Int)).toNat = m + jn := by omega
              obtain ⟨c, cb, coff, tp, tl, tc, hcL, rfl, hcells, hrnc⟩ := HC.out (m + jn) (by omega)
              obtain ⟨g0, g1, g2, g3, g4, g5⟩ := hcells wr bwr
              have hrep : List.replicate (jn + 1) (U6.keep A) = List.replicate jn (U6.keep A) ++ [(U6.keep A)] := List.replicate_succ'
              have HN3 : Hid (StE (units (E.take k) ++ List.replicate (jn + 1) (U6.keep A)) L (xs ++ [patC c A]) (m + (jn + 1))) := by rw [hrep, ← List.append_assoc]; exact stE_keep HI.out.2.1 hcL
              have hup := HU.out.1 c (List.mem_of_getElem? hcL)
              have hsm := HSM.out.2.1 c (List.mem_of_getElem? hcL)
              have hbz : bx < wr.heap.size := (Array.getElem?_eq_some_iff.1 hbx).1
              have nb1 : ¬ bx = wr.heap.size := by omega
              have nb2 : ¬ wr.heap.size = bx := by omega
              obtain ⟨W1, hW1⟩ : ∃ W, W = wr.alloc (.cells (ceC (c.1, c.2.1, c.2.2.1, tp, tl, tc)) 59) := ⟨_, rfl⟩
              have b1 : Below wr.heap.size wr W1 := by rw [hW1]; exact (Below.refl _ _).alloc (Nat.le_refl _) _
              have s1 : W1.heap.size = wr.heap.size + 1 := by rw [hW1]; simp
              have bww1 := bwr.trans (b1.mono bwr.size)
              have bw0 := HU.out.2.2.2.trans (bww1.mono HU.out.2.2.2.size)
              have r0 : W1.cell? ⟨wr.heap.size, 0, none⟩ = some (.int .i32 c.1) := by rw [hW1]; simp [ceC]
              have r1 : W1.cell? ⟨wr.heap.size, 1, none⟩ = some (.string c.2.1) := by rw [hW1]; simp [ceC]
              have r2 : W1.cell? ⟨wr.heap.size, 2, none⟩ = some (.int .i64 c.2.2.1.1) := by rw [hW1]; simp [ceC]
              have r3 : W1.cell? ⟨wr.heap.size, 3, none⟩ = some (.int .i64 c.2.2.1.2.1) := by rw [hW1]; simp [ceC]
              have r4 : W1.cell? ⟨wr.heap.size, 4, none⟩ = some (.string c.2.2.1.2.2) := by rw [hW1]; simp [ceC]
              have r5 : W1.cell? ⟨wr.heap.size, 5, none⟩ = some (.slice tp tl tc) := by rw [hW1]; simp [ceC, slV]
              have f5 : W1.frozen? ⟨wr.heap.size, 5, none⟩ = false := by rw [hW1]; simp
              have x0 := (b1.cell (lt_of_cell e0)).trans e0
              have x6 := (b1.cell (lt_of_cell e6)).trans e6
              have cP := patched_any (.slice tp tl tc) (.slice sp sl sc) c.2.2.2 A W1 (hrnc.below bw0).row (HSM.out.2.2.below bw0).row (HSM.out.2.2.nz) hup HSM.out.1 hsm
              have HOW := Hid.mk' own
              have HBX := Hid.mk' hbx
              have hDx := forall2_len HI.out.1
              have hDl : Do.length + 1 ≤ 33554432 := by have := HI.out.2.2; have := txtS_take E (k + 1); have := HN.out.2.2.2.2; omega
              have hgeo : Hid (∀ k, u6.ownBlock = some k → w.heap.size ≤ k) := fun k hk => (owns_block own k hk).1
              have HPC : Hid ((patC c A).1 = c.1 ∧ (patC c A).2.1 = c.2.1 ∧ (patC c A).2.2.1 = c.2.2.1) := ⟨rfl, rfl, rfl⟩
              obtain ⟨PA, hPA⟩ : ∃ x, (patC c A).2.2.2 = x := ⟨_, rfl⟩
              have HPA := Hid.mk' hPA
              replace cP : Calls Tryz.prog 59 #[.slice tp tl tc, .slice sp sl sc] W1 fun r w' => ∃ v', r = .returned v' ∧ OwnA w' W1.heap.size v' PA ∧ Below W1.heap.size W1 w' := by rw [← hPA]; exact cP
              clear hcells hrnc hcL hrep own hbx hup hsm bw0 hPA
              obtain ⟨PC, hPC⟩ : ∃ x, patC c A = x := ⟨_, rfl⟩
              rw [hPC] at HN3 HPC HPA
              clear hPC
              obtain ⟨ck, ct, ⟨cx, cz, cu⟩, cA⟩ := c
              simp only [ceC, slV] at g0 g1 g2 g3 g4 g5 hW1 r0 r1 r2 r3 r4
              go_upto_region 14 with fail
              rw [← hW1]
              clear hW1 g0 g1 g2 g3 g4 g5 e0 e5 e6
              go_wp2_with fail
              refine cP.mono ?_; rintro r w2 ⟨v2, rfl, own2, hb2⟩
              obtain ⟨p2, c2, rfl⟩ := own_slice own2
              have f52 := (hb2.frozen (p := ⟨wr.heap.size, 5, none⟩) (lt_of_cell r5)).trans f5
              replace r0 := (hb2.cell (lt_of_cell r0)).trans r0
              replace r1 := (hb2.cell (lt_of_cell r1)).trans r1
              replace r2 := (hb2.cell (lt_of_cell r2)).trans r2
              replace r3 := (hb2.cell (lt_of_cell r3)).trans r3
              replace r4 := (hb2.cell (lt_of_cell r4)).trans r4
              replace r5 := (hb2.cell (lt_of_cell r5)).trans r5
              have b2 := b1.trans (hb2.mono b1.size)
              have O2 := Hid.mk' own2
              clear cP f5 x0 x6 own2
              go_upto_region 17 with fail
              obtain ⟨W3, hW3⟩ : ∃ W, W = w2.setCell ⟨wr.heap.size, 5, none⟩ (.slice p2 PA.length c2) := ⟨_, rfl⟩
              have hq : ∀ i, i ≠ 5 → W3.cell? ⟨wr.heap.size, i, none⟩ = w2.cell? ⟨wr.heap.size, i, none⟩ := fun i hi => by
                rw [hW3]; exact World.cell?_setCell_other _ _ _ _ (fun e => by cases e; omega)
              have t0 := (hq 0 (by decide)).trans r0
              have t1 := (hq 1 (by decide)).trans r1
              have t2 := (hq 2 (by decide)).trans r2
              have t3 := (hq 3 (by decide)).trans r3
              have t4 := (hq 4 (by decide)).trans r4
              have t5 : W3.cell? ⟨wr.heap.size, 5, none⟩ = some (.slice p2 PA.length c2) := by rw [hW3]; exact World.cell?_setCell_same' _ _ _ (by rw [r5]; rfl)
              have b3 : Below wr.heap.size wr W3 := by rw [hW3]; exact b2.setCell (Nat.le_refl _) _
              have O3 : OwnA W3 w.heap.size (.slice p2 PA.length c2) PA := by
                rw [hW3]
                exact own_weaken (ownsRow_setCell_below O2.out (a := ⟨wr.heap.size, 5, none⟩) (by show wr.heap.size < W1.heap.size; omega) _) (by have := bwr.size; omega)
              rw [← hW3]
              clear hW3 hq r0 r1 r2 r3 r4 r5 f52 b2 b1 hb2 O2 s1 bww1
              have ba : Below W3.heap.size W3 (W3.alloc (.cells (ceC (ck, ct, (cx, cz, cu), p2, PA.length, c2)) 59)) := (Below.refl _ _).alloc (Nat.le_refl _) _
              have b4 := b3.trans (ba.mono b3.size)
              have HO4 : Hid (OwnC (W3.alloc (.cells (ceC (ck, ct, (cx, cz, cu), p2, PA.length, c2)) 59)) w.heap.size u6 Do ∧ RowC (W3.alloc (.cells (ceC (ck, ct, (cx, cz, cu), p2, PA.length, c2)) 59)) (.slice (some ⟨W3.heap.size, 0, none⟩) 1 1) [(ck, ct, (cx, cz, cu), p2, PA.length, c2)] ∧ Do.length + ([(ck, ct, (cx, cz, cu), p2, PA.length, c2)] : List CV).length ≤ 33554432 ∧ w.heap.size ≤ (W3.alloc (.cells (ceC (ck, ct, (cx, cz, cu), p2, PA.length, c2)) 59)).heap.size) := ⟨owns_below HOW.out b4, one_rowC W3 _, by simpa using hDl, Nat.le_trans bwr.size b4.size⟩
              have HA4 : Hid (AreM w0 (W3.alloc (.cells (ceC (ck, ct, (cx, cz, cu), p2, PA.length, c2)) 59)) w.heap.size (Do ++ [(ck, ct, (cx, cz, cu), p2, PA.length, c2)]) (xs ++ [PC]) ∧ (W3.alloc (.cells (ceC (ck, ct, (cx, cz, cu), p2, PA.length, c2)) 59)).heap[bx]? = wr.heap[bx]?) := ⟨forall2_append (HI.out.1.keep (keepA_below b4)) (.cons ⟨HPC.out.1.symm, HPC.out.2.1.symm, HPC.out.2.2.symm, Or.inr (by rw [HPA.out]; exact owns_below O3 ba)⟩ .nil), b4.block bx hbz⟩
              have bw4 := bwr.trans (b4.mono bwr.size)
              have HLN := Hid.mk' HI.out.2.2
              clear HOW b3 b4 ba O3 HI
              go_wp2_with (at_builtin; refine wpList_append_cells rfl (.tmp 53) (.tmp 55) rfl w.heap.size u6 Do rfl HO4.out.1 _ _ rfl HO4.out.2.1 HO4.out.2.2.1 HO4.out.2.2.2 ?_; intro v' w7 own7 gr7; have b7 : Below w.heap.size w w7 := bw4.grown gr7 bw4.size (fun k hk => hgeo.out k hk); have HA7 : Hid (AreM w0 w7 w.heap.size (Do ++ [(ck, ct, (cx, cz, cu), p2, PA.length, c2)]) (xs ++ [PC]) ∧ OwnC w7 w.heap.size v' (Do ++ [(ck, ct, (cx, cz, cu), p2, PA.length, c2)]) ∧ w7.heap[bx]? = some (.cells #[.int .i64 3, .string t, .int .i64 xx, .int .i64 nn, .string u, .int .i64 (cn : Int), .slice sp sl sc] 48 (0, 0))) := ⟨HA4.out.1.keep (keepA_grown HO4.out.1 gr7), own7, keep_op HO4.out.1 gr7 (HA4.out.2.trans HBX.out)⟩; clear own7 gr7 HO4 HA4)
              go_roundw
              case rel => exact ⟨jn + 1, _, _, by omega, by go_num, by simp; omega, HA7.out.2.1, ⟨HA7.out.1, HN3.out, by rw [List.length_append]; simp; have := HLN.out; omega⟩, b7, HA7.out.2.2⟩
              case measure => simp [RowKit.intOf]; omega
            · obtain rfl : jn = cn := by omega
              have hjI : ¬ (jn : Int) < (jn : Int) := by omega
              have HF : Hid (StE (units (E.take (k + 1))) L xs (m + jn)) := by rw [HUT.out]; exact HI.out.2.1
              go_wp2
              go_roundw
              case rel => exact ⟨k + 1, m + jn, xs, Do, by omega, by omega, by go_num, by simp, own, ⟨HI.out.1, HF.out, HI.out.2.2⟩, bwr⟩
              case measure => simp [RowKit.intOf]; omega
        · have HUO : Hid (unitsO e = List.replicate cn U6.del) := by show _ = _; unfold unitsO; rw [if_neg hi, if_neg (by omega), hcn]; rfl
          have HUT : Hid (units (E.take (k + 1)) = units (E.take k) ++ List.replicate cn U6.del) := by show _ = _; rw [hT, units_append, units_one, HUO.out]
          have HUE : Hid (units E = units (E.take k) ++ (List.replicate cn U6.del ++ units (E.drop (k + 1)))) := by show _ = _; rw [HT.out.2, HUO.out]
          clear hem hfe hz hat hrn bw hi hbx he hT hw huA htx HT HUO hDx
          obtain ⟨kk, t, ⟨xx, nn, u⟩, cc, A⟩ := e
          simp only at hcn hk4
          subst hcn; subst hk4
          simp only [opC, slV] at c0 c1 c2 c3 c4 c5 c6 cI HX
          rw [hbxs] at HX
          go_wp2_with fail
          refine cI.mono ?_; rintro r w1 ⟨rfl, hw1⟩
          obtain ⟨⟨d0, d1, d2, d3, d4, d5, d6⟩, b1, hb1⟩ := HX.out w1 hw1
          simp only [Nat.zero_add, slV] at d0 d1 d2 d3 d4 d5 d6
          have bw1 := hbw.trans (Below.mono (by rw [hbxs]; exact b1) hbw.size)
          have own1 : OwnC w1 w.heap.size u6 Do := owns_below hown (by rw [hbxs]; exact b1)
          have KA : Hid (KeepA wr w1) := keepA_below (by rw [hbxs]; exact b1)
          clear cI hw1 HX c0 c1 c2 c3 c4 c5 c6 b1 hown HO hge hbw hbxs
          by_cases hcmp : l - m < cn
          · have hcI : (l : Int) - (m : Int) < (cn : Int) := by omega
            have HSH : Hid (edit (units E) L = none) := by show _ = _; rw [HUE.out]; exact stE_short HS.out.2.1 (Or.inl rfl) (by rw [HN.out.2.1]; exact hcmp) _
            clear hb1 own1 KA HR HC
            go_wp2
            go_ret2
            exact ⟨Or.inr ⟨HSH.out, rfl⟩, bw1⟩
          have hcI : ¬ (l : Int) - (m : Int) < (cn : Int) := by omega
          clear HR
          go_wp2
          go_loopw [6, 7, 10] (fun out at_ j wr2 => ∃ (jn : Nat) (xs : List C5) (Do : List CV), jn ≤ cn ∧ j = .int .i64 jn ∧ at_ = .int .i64 ((m : Int) + (jn : Int)) ∧ OwnC wr2 w.heap.size out Do ∧ Hid (AreM w0 wr2 w.heap.size Do xs ∧ StE (units (E.take k) ++ List.replicate jn U6.del) L xs (m + jn) ∧ xs.length ≤ txtS (E.take (k + 1)) + (m + jn)) ∧ Below w.heap.size w wr2 ∧ wr2.heap[bx]? = some (.cells #[.int .i64 4, .string t, .int .i64 xx, .int .i64 nn, .string u, .int .i64 (cn : Int), .slice sp sl sc] 48 (0, 0))) (fun _ _ j _ => cn - (RowKit.intOf j).toNat)
          case atStart => exact ⟨0, xs, Do, Nat.zero_le _, rfl, by simp, own1, ⟨HS.out.1.keep KA.out, by rw [List.replicate_zero, List.append_nil]; exact HS.out.2.1, by have := HS.out.2.2; have := HTX.out; omega⟩, bw1, hb1⟩
          case round =>
            clear own1 bw1 hb1 d0 d1 d2 d3 d4 d5 d6
            obtain ⟨jn, xs, Do, hjn, rfl, rfl, own, HI, bwr, hbx⟩ := hrel
            have e0 : wr.cell? ⟨bx, 0, none⟩ = some (.int .i64 4) := by rw [cell_of_heap hbx]; rfl
            have e5 : wr.cell? ⟨bx, 5, none⟩ = some (.int .i64 (cn : Int)) := by rw [cell_of_heap hbx]; rfl
            have e6 : wr.cell? ⟨bx, 6, none⟩ = some (.slice sp sl sc) := by rw [cell_of_heap hbx]; rfl
            by_cases hjl : jn < cn
            · have hjI : (jn : Int) < (cn : Int) := by omega
              have hml : (m : Int) + (jn : Int) < (l : Int) := by omega
              have hm0 : (0 : Int) ≤ (m : Int) + (jn : Int) := by omega
              have hmt : ((m : Int) + (jn : Int)).toNat = m + jn := by omega
              obtain ⟨c, cb, coff, tp, tl, tc, hcL, rfl, hcells, hrnc⟩ := HC.out (m + jn) (by omega)
              obtain ⟨g0, g1, g2, g3, g4, g5⟩ := hcells wr bwr
              have hrep : List.replicate (jn + 1) U6.del = List.replicate jn U6.del ++ [U6.del] := List.replicate_succ'
              have HN4 : Hid (StE (units (E.take k) ++ List.replicate (jn + 1) .del) L xs (m + (jn + 1))) := by rw [hrep, ← List.append_assoc]; exact stE_del HI.out.2.1 hcL
              have bA : Below wr.heap.size wr (wr.alloc (.cells (ceC (c.1, c.2.1, c.2.2.1, tp, tl, tc)) 59)) := (Below.refl _ _).alloc (Nat.le_refl _) _
              have H4 : Hid (OwnC (wr.alloc (.cells (ceC (c.1, c.2.1, c.2.2.1, tp, tl, tc)) 59)) w.heap.size u6 Do ∧ AreM w0 (wr.alloc (.cells (ceC (c.1, c.2.1, c.2.2.1, tp, tl, tc)) 59)) w.heap.size Do xs ∧ Below w.heap.size w (wr.alloc (.cells (ceC (c.1, c.2.1, c.2.2.1, tp, tl, tc)) 59)) ∧ (wr.alloc (.cells (ceC (c.1, c.2.1, c.2.2.1, tp, tl, tc)) 59)).heap[bx]? = wr.heap[bx]?) := ⟨owns_below own bA, HI.out.1.keep (keepA_below bA), bwr.trans (bA.mono bwr.size), bA.block bx (Array.getElem?_eq_some_iff.1 hbx).1⟩
              have hbz : bx < wr.heap.size := (Array.getElem?_eq_some_iff.1 hbx).1
              have nb1 : ¬ bx = wr.heap.size := by omega
              have nb2 : ¬ wr.heap.size = bx := by omega
              have HBX := Hid.mk' hbx
              have HLN := Hid.mk' HI.out.2.2
              clear hcells hrnc hcL hrep own HI bwr bA hbx
              obtain ⟨ck, ct, ⟨cx, cz, cu⟩, cA⟩ := c
              simp only [ceC, slV] at g0 g1 g2 g3 g4 g5 H4
              go_wp2
              go_roundw
              case rel => exact ⟨jn + 1, xs, Do, by omega, by go_num, by simp; omega, H4.out.1, ⟨H4.out.2.1, HN4.out, by have := HLN.out; omega⟩, H4.out.2.2.1, H4.out.2.2.2.trans HBX.out⟩
              case measure => simp [RowKit.intOf]; omega
            · obtain rfl : jn = cn := by omega
              have hjI : ¬ (jn : Int) < (jn : Int) := by omega
              have HF : Hid (StE (units (E.take (k + 1))) L xs (m + jn)) := by rw [HUT.out]; exact HI.out.2.1
              go_wp2
              go_roundw
              case rel => exact ⟨k + 1, m + jn, xs, Do, by omega, by omega, by go_num, by simp, own, ⟨HI.out.1, HF.out, HI.out.2.2⟩, bwr⟩
              case measure => simp [RowKit.intOf]; omega
    · have hltI : ¬ (k : Int) < n := by omega
      have hm0 : (0 : Int) ≤ (m : Int) := by omega
      have hmI : (m : Int) ≤ (l : Int) := by omega
      have hmc : (m : Int) ≤ (qc : Int) := by have := HRC.out.2.2.2.2; omega
      have hlc : (l : Int) ≤ (qc : Int) := by have := HRC.out.2.2.2.2; omega
      have hkn : k = n := by omega
      subst hkn
      have hE : E.take k = E := List.take_of_length_le (by have := HN.out.1; omega)
      have HO := Hid.mk' hown
      have hDx := forall2_len HS.out.1
      have hlen : Do.length + (Dc.drop m).length ≤ 33554432 := by have h1 := HS.out.2.2; have h2 := HN.out.2.2.2.2; rw [hE] at h1; have h3 := HRC.out.2.2.1; rw [List.length_drop]; omega
      have hge : Hid (∀ k, u6.ownBlock = some k → w.heap.size ≤ k) := fun k hk => (owns_block hown k hk).1
      have HSE : Hid (AreM w0 wr w.heap.size Do xs ∧ edit (units E) L = some (xs ++ L.drop m)) := ⟨HS.out.1, by have := HS.out.2.1; rw [hE] at this; exact stE_end this⟩
      clear HS HR HC hE hDx hown hltI hlt
      go_wp2_with (at_builtin; refine wpList_append_cells rfl (.tmp 58) (.tmp 61) rfl w.heap.size u6 Do rfl HO.out _ (Dc.drop m) rfl ?_ hlen hbw.size ?_)
      · have hme : m = l := by have := HRC.out.2.2.2.2; omega
        have hd : Dc.drop m = [] := List.drop_eq_nil_of_le (by rw [HRC.out.2.2.1]; omega)
        rw [hd, show l - m = 0 by omega]
        exact ⟨q, 0, rfl, Nat.le_refl _, fun _ => rfl, fun h => absurd rfl h⟩
      · have hlm : (Dc.drop m).length = l - m := by rw [List.length_drop, HRC.out.2.2.1]
        refine ⟨_, qc - m, by rw [hlm], by rw [hlm]; have := HRC.out.2.2.2.2; omega, fun h => ?_, fun hne => ?_⟩
        · have : q = none := by cases q with | none => rfl | some x => simp at h
          have := HRC.out.2.1 this
          omega
        · obtain ⟨cb, coff, hq, hin⟩ := HRC.out.1 wr hbw (fun e => hne (by rw [e]; simp))
          refine ⟨cb, coff + m * 6, by rw [hq]; simp [Addr.add_lit], fun j u hu => ?_⟩
          have hsp : cellsC Dc = cellsC (Dc.take m) ++ cellsC (Dc.drop m) := by rw [← cellsC_append, List.take_append_drop]
          have htl : (cellsC (Dc.take m)).length = m * 6 := by rw [cellsC_len, List.length_take, HRC.out.2.2.1]; rw [Nat.min_eq_left (by omega)]
          have := hin (m * 6 + j) u (by rw [hsp, List.getElem?_append_right (by omega), htl, Nat.add_sub_cancel_left]; exact hu)
          rw [Nat.add_assoc]
          exact this
      all_goals (intro v' w7 own7 gr7; have b7 : Below w.heap.size w w7 := hbw.grown gr7 hbw.size (fun k hk => hge.out k hk); have HF : Hid (EdR w7 (units E) L (.returned (.tuple #[v', .bool true])) ∧ Below w.heap.size w w7) := ⟨Or.inl ⟨_, HSE.out.2, v', rfl, _, own_rowC own7, AreM.are (B := w.heap.size) (forall2_append (HSE.out.1.keep (keepA_grown HO.out gr7)) (AreM.of (all2_drop m HRC.out.2.2.2.1))) (HU.out.2.2.2.trans (b7.mono HU.out.2.2.2.size))⟩, b7⟩; clear own7 gr7 HO HSE b7; go_wp2)
      all_goals (go_ret2; exact HF.out)
end Go.Proofs.YtfllomfjhkgaoaaGreatDoor

/- What a canonical list's attributes are; how much an edit makes. -/
namespace Go.Proofs.YtfllomfjhkgaoaaGreatDoor
open Go Go.RowKit Go.Lib
set_option linter.unusedVariables false

theorem push_at {p : List A2 → Prop} {P : List Op5} {o : Op5} (h : ∀ x ∈ P, p x.A) (ho : p o.A) : ∀ x ∈ pushL P o, p x.A := by
  rcases List.eq_nil_or_concat P with rfl | ⟨F, x, rfl⟩
  · rw [push_nil]; intro y hy; rw [List.mem_singleton.1 hy]; exact ho
  · rw [List.concat_eq_append] at h ⊢
    by_cases hj : x.k ≠ o.k ∨ o.k = 2 ∨ x.A ≠ o.A
    · rw [push_apart hj]
      intro y hy
      rcases List.mem_append.1 hy with hy | hy
      · exact h y hy
      · rw [List.mem_singleton.1 hy]; exact ho
    · rw [push_join hj]
      intro y hy
      rcases List.mem_append.1 hy with hy | hy
      · exact h y (List.mem_append_left _ hy)
      · rw [List.mem_singleton.1 hy]; exact h x (List.mem_append_right _ (List.mem_singleton.2 rfl))
theorem fold_at {p : List A2 → Prop} : ∀ (G : List Op5) {P : List Op5}, (∀ x ∈ P, p x.A) → (∀ o ∈ G, p o.A) → ∀ x ∈ G.foldl pushL P, p x.A
  | [], _, h, _ => h
  | o :: G, P, h, hG => fold_at G (push_at h (hG o (List.mem_cons_self ..))) (fun x hx => hG x (List.mem_cons_of_mem _ hx))
theorem flush_at {p : List A2 → Prop} {P G : List Op5} {g : Int} (h : ∀ x ∈ P, p x.A) (hG : ∀ o ∈ G, p o.A) (h0 : p []) : ∀ x ∈ flushL P G g, p x.A := by
  unfold flushL
  split
  · exact push_at (fold_at G h hG) h0
  · exact fold_at G h hG
theorem run_at {p : List A2 → Prop} (h0 : p []) : ∀ (E : List Op5) (s : List Op5 × List Op5 × Int), (∀ x ∈ s.1, p x.A) → (∀ x ∈ s.2.1, p x.A) → (∀ o ∈ E, p o.A) → (∀ x ∈ (E.foldl stepC s).1, p x.A) ∧ ∀ x ∈ (E.foldl stepC s).2.1, p x.A
  | [], _, h1, h2, _ => ⟨h1, h2⟩
  | o :: E, s, h1, h2, hE => by
    have ho := hE o (List.mem_cons_self ..)
    have key : (∀ x ∈ (stepC s o).1, p x.A) ∧ ∀ x ∈ (stepC s o).2.1, p x.A := by
      unfold stepC
      split
      · exact ⟨h1, fun x hx => by rcases List.mem_append.1 hx with hx | hx; exact h2 x hx; rw [List.mem_singleton.1 hx]; exact ho⟩
      · split
        · exact ⟨h1, h2⟩
        · exact ⟨push_at (flush_at h1 h2 h0) ho, fun x hx => (by cases hx)⟩
    exact run_at h0 E (stepC s o) key.1 key.2 (fun x hx => hE x (List.mem_cons_of_mem _ hx))
theorem canon_at {p : List A2 → Prop} {E : List Op5} (h0 : p []) (h : ∀ o ∈ E, p o.A) : ∀ x ∈ canonL E, p x.A := by
  obtain ⟨h1, h2⟩ := run_at h0 E ([], [], 0) (fun x hx => (by cases hx)) (fun x hx => (by cases hx)) h
  have h3 := flush_at (g := (runC E).2.2) (P := (runC E).1) (G := (runC E).2.1) h1 h2 h0
  intro x hx
  refine h3 x ?_
  show x ∈ _
  unfold canonL trimL at hx
  split at hx
  · split at hx
    · exact (List.dropLast_subset _) hx
    · exact hx
  · exact hx
/-- How many cells units insert. -/
def insU (U : List U6) : Nat := U.countP fun u => match u with | .ins _ => true | _ => false
theorem run_len : ∀ (U : List U6) (L : List C5) (x : List C5 × List C5), runU U L = some x → x.1.length + x.2.length ≤ insU U + L.length
  | [], L, x, h => by cases h; show 0 + L.length ≤ 0 + L.length; omega
  | .ins c :: U, L, x, h => by
    obtain ⟨y, hy, rfl⟩ := Option.map_eq_some_iff.1 (show (runU U L).map _ = some x from h)
    have := run_len U L y hy
    have e : insU (.ins c :: U) = insU U + 1 := by simp [insU]
    simp only [List.length_cons]; omega
  | .keep A :: U, c :: L, x, h => by
    obtain ⟨y, hy, rfl⟩ := Option.map_eq_some_iff.1 (show (runU U L).map _ = some x from h)
    have := run_len U L y hy
    have e : insU (.keep A :: U) = insU U := by simp [insU]
    simp only [List.length_cons]; omega
  | .keep A :: U, [], x, h => by cases h
  | .del :: U, c :: L, x, h => by
    have := run_len U L x h
    have e : insU (.del :: U) = insU U := by simp [insU]
    simp only [List.length_cons]; omega
  | .del :: U, [], x, h => by cases h
/-- How long the lists of what comes are. -/
theorem run_lists {N M K : Nat} (hK : N + M ≤ K) : ∀ (U : List U6) (L : List C5) (x : List C5 × List C5), (∀ u ∈ U, match u with | .ins c => c.2.2.2.length ≤ K | .keep A => A.length ≤ N | .del => True) → (∀ c ∈ L, c.2.2.2.length ≤ M) → runU U L = some x → (∀ c ∈ x.1, c.2.2.2.length ≤ K) ∧ ∀ c ∈ x.2, c.2.2.2.length ≤ M
  | [], L, x, _, hL, h => by cases h; exact ⟨fun c hc => (by cases hc), hL⟩
  | .ins c :: U, L, x, hU, hL, h => by
    obtain ⟨y, hy, rfl⟩ := Option.map_eq_some_iff.1 (show (runU U L).map _ = some x from h)
    obtain ⟨h1, h2⟩ := run_lists hK U L y (fun u hu => hU u (List.mem_cons_of_mem _ hu)) hL hy
    have h0 := hU _ (List.mem_cons_self ..)
    exact ⟨fun d hd => by rcases List.mem_cons.1 hd with rfl | hd; exact h0; exact h1 d hd, h2⟩
  | .keep A :: U, c :: L, x, hU, hL, h => by
    obtain ⟨y, hy, rfl⟩ := Option.map_eq_some_iff.1 (show (runU U L).map _ = some x from h)
    obtain ⟨h1, h2⟩ := run_lists hK U L y (fun u hu => hU u (List.mem_cons_of_mem _ hu)) (fun d hd => hL d (List.mem_cons_of_mem _ hd)) hy
    have h0 : A.length ≤ N := hU _ (List.mem_cons_self ..)
    have h3 := hL c (List.mem_cons_self ..)
    exact ⟨fun d hd => by
      rcases List.mem_cons.1 hd with rfl | hd
      · have := jn_len (chC false) c.2.2.2 A
        show (jn (chC false) c.2.2.2 A).length ≤ K
        omega
      · exact h1 d hd, h2⟩
  | .keep A :: U, [], x, _, _, h => by cases h
  | .del :: U, c :: L, x, hU, hL, h => run_lists hK U L x (fun u hu => hU u (List.mem_cons_of_mem _ hu)) (fun d hd => hL d (List.mem_cons_of_mem _ hd)) h
  | .del :: U, [], x, _, _, h => by cases h
end Go.Proofs.YtfllomfjhkgaoaaGreatDoor

/- vellumlaw06.alike: of cells that are the same. -/
namespace Go.Proofs.YtfllomfjhkgaoaaGreatDoor
open Go Go.RowKit Go.Lib
set_option linter.unusedVariables false

set_option maxHeartbeats 8000000 in
set_option maxRecDepth 100000 in
theorem alike_any (v v' : Value) (D D' : List CV) (E : List C5) (w : World) (hv : RowC w v D) (hv' : RowC w v' D') (hA : Are w D E) (hA' : Are w D' E) (hl : ∀ e ∈ E, e.2.2.2.length ≤ 4194304) (hn1 : D.length ≤ 33554432) :
    Calls Tryz.prog 28 #[v, v'] w fun r w' => r = .returned (.bool true) ∧ Below w.heap.size w w' := by
  obtain ⟨n, hn⟩ : ∃ n, D.length = n := ⟨_, rfl⟩
  have hE := forall2_len hA
  have hE' := forall2_len hA'
  have hm : D'.length = n := by omega
  obtain ⟨pa, ca, rfl, ha, _, hca⟩ := hv
  obtain ⟨pb, cb, rfl, hb, _, hcb⟩ := hv'
  rw [hn] at ha hn1 hE ⊢
  rw [hm] at hb hE' ⊢
  have HN : Hid (D.length = n ∧ D'.length = n ∧ E.length = n) := ⟨hn, hm, hE.symm⟩
  have HA : Hid _ := hca
  have HB : Hid _ := hcb
  have CC : Hid (∀ (k : Nat) d d', D[k]? = some d → D'[k]? = some d' → d.1 = d'.1 ∧ d.2.1 = d'.2.1 ∧ d.2.2.1 = d'.2.2.1 ∧ ∀ W, Below w.heap.size w W → Calls Tryz.prog 52 #[slV d.2.2.2, slV d'.2.2.2] W fun r w' => r = .returned (.bool true) ∧ Below W.heap.size W w') := fun k d d' h1 h2 => by
    obtain ⟨y, hy, r1⟩ := forall2_get hA k d h1
    obtain ⟨y', hy', r2⟩ := forall2_get hA' k d' h2
    obtain rfl : y = y' := Option.some.inj (hy.symm.trans hy')
    refine ⟨r1.1.trans r2.1.symm, r1.2.1.trans r2.2.1.symm, r1.2.2.1.trans r2.2.2.1.symm, fun W hW => ?_⟩
    have h3 := hl _ (List.mem_of_getElem? hy)
    have := refSame_any (slV d.2.2.2) (slV d'.2.2.2) y.2.2.2 y.2.2.2 W (r1.2.2.2.below hW).row (r2.2.2.2.below hW).row (by omega) (by omega)
    rwa [decide_eq_true rfl] at this
  clear hca hcb hn hm hA hA' hl hE hE'
  go_enter Tryz.func28, Tryz.ntmps28
  go_wp2
  go_loopw [13] (fun i wr => ∃ (k : Nat), k ≤ n ∧ i = .int .i64 k ∧ Below w.heap.size w wr) (fun i _ => n - (RowKit.intOf i).toNat)
  case atStart => exact ⟨0, Nat.zero_le _, rfl, Below.refl _ _⟩
  case round =>
    obtain ⟨k, hk, rfl, hbw⟩ := hrel
    by_cases hlt : k < n
    · have hltI : (k : Int) < n := by omega
      obtain ⟨d, hd⟩ : ∃ q, D[k]? = some q := ⟨_, List.getElem?_eq_getElem (by rw [HN.out.1]; exact hlt)⟩
      obtain ⟨d', hd'⟩ : ∃ q, D'[k]? = some q := ⟨_, List.getElem?_eq_getElem (by rw [HN.out.2.1]; exact hlt)⟩
      obtain ⟨g1, g2, g3, cc⟩ := CC.out k d d' hd hd'
      obtain ⟨b, off, rfl, hin⟩ := HA.out (by intro e; rw [e] at hd; simp at hd)
      obtain ⟨b', off', rfl, hin'⟩ := HB.out (by intro e; rw [e] at hd'; simp at hd')
      obtain ⟨x0, x1, x2, x3, x4, x5⟩ := cellsC_get D k d hd
      obtain ⟨y0, y1, y2, y3, y4, y5⟩ := cellsC_get D' k d' hd'
      have c0 := (hin.below hbw) _ _ x0
      have c1 := (hin.below hbw) _ _ x1
      have c2 := (hin.below hbw) _ _ x2
      have c3 := (hin.below hbw) _ _ x3
      have c4 := (hin.below hbw) _ _ x4
      have c5 := (hin.below hbw) _ _ x5
      have d0 := (hin'.below hbw) _ _ y0
      have d1 := (hin'.below hbw) _ _ y1
      have d2 := (hin'.below hbw) _ _ y2
      have d3 := (hin'.below hbw) _ _ y3
      have d4 := (hin'.below hbw) _ _ y4
      have d5 := (hin'.below hbw) _ _ y5
      simp only [← Nat.add_assoc] at c0 c1 c2 c3 c4 c5 d0 d1 d2 d3 d4 d5
      clear x0 x1 x2 x3 x4 x5 y0 y1 y2 y3 y4 y5 hin hin' hd hd'
      obtain ⟨f, t, ⟨x, z, u⟩, p, j, c⟩ := d
      obtain ⟨f', t', ⟨x', z', u'⟩, p', j', c'⟩ := d'
      simp only [slV] at c0 c1 c2 c3 c4 c5 d0 d1 d2 d3 d4 d5 cc
      simp only [Prod.mk.injEq] at g1 g2 g3
      obtain ⟨rfl, rfl, rfl⟩ := g3
      subst g1; subst g2
      have q1 := beq_key (x := t) (y := t) true (decide_eq_true rfl)
      have hne := eql_pl (x, z, u) (x, z, u) true (samP_self _)
      have gd := fun op e e' w => guard_pl op e e' (x, z, u) (x, z, u) w
      have kd : (f == f) = true := by simp
      have hk0 : (0 : Int) ≤ (k : Int) := by omega
      have HU : Hid (∀ w', Below wr.drew.heap.size wr.drew w' → (w'.cell? ⟨b, off + k * 6, none⟩ = some (.int .i32 f) ∧ w'.cell? ⟨b, off + k * 6 + 1, none⟩ = some (.string t) ∧ w'.cell? ⟨b, off + k * 6 + 2, none⟩ = some (.int .i64 x) ∧ w'.cell? ⟨b, off + k * 6 + 3, none⟩ = some (.int .i64 z) ∧ w'.cell? ⟨b, off + k * 6 + 4, none⟩ = some (.string u) ∧ w'.cell? ⟨b, off + k * 6 + 5, none⟩ = some (.slice p j c) ∧ w'.cell? ⟨b', off' + k * 6, none⟩ = some (.int .i32 f) ∧ w'.cell? ⟨b', off' + k * 6 + 1, none⟩ = some (.string t) ∧ w'.cell? ⟨b', off' + k * 6 + 2, none⟩ = some (.int .i64 x) ∧ w'.cell? ⟨b', off' + k * 6 + 3, none⟩ = some (.int .i64 z) ∧ w'.cell? ⟨b', off' + k * 6 + 4, none⟩ = some (.string u) ∧ w'.cell? ⟨b', off' + k * 6 + 5, none⟩ = some (.slice p' j' c'))) := fun w' hb => ⟨(hb.cell (lt_of_cell (w := wr.drew) c0)).trans c0, (hb.cell (lt_of_cell (w := wr.drew) c1)).trans c1, (hb.cell (lt_of_cell (w := wr.drew) c2)).trans c2, (hb.cell (lt_of_cell (w := wr.drew) c3)).trans c3, (hb.cell (lt_of_cell (w := wr.drew) c4)).trans c4, (hb.cell (lt_of_cell (w := wr.drew) c5)).trans c5, (hb.cell (lt_of_cell (w := wr.drew) d0)).trans d0, (hb.cell (lt_of_cell (w := wr.drew) d1)).trans d1, (hb.cell (lt_of_cell (w := wr.drew) d2)).trans d2, (hb.cell (lt_of_cell (w := wr.drew) d3)).trans d3, (hb.cell (lt_of_cell (w := wr.drew) d4)).trans d4, (hb.cell (lt_of_cell (w := wr.drew) d5)).trans d5⟩
      have hz0 : w.heap.size ≤ wr.drew.heap.size := hbw.size
      go_wp2_with fail
      go_region_held3 (fun w' => (w'.cell? ⟨b, off + k * 6, none⟩ = some (.int .i32 f) ∧ w'.cell? ⟨b, off + k * 6 + 1, none⟩ = some (.string t) ∧ w'.cell? ⟨b, off + k * 6 + 2, none⟩ = some (.int .i64 x) ∧ w'.cell? ⟨b, off + k * 6 + 3, none⟩ = some (.int .i64 z) ∧ w'.cell? ⟨b, off + k * 6 + 4, none⟩ = some (.string u) ∧ w'.cell? ⟨b, off + k * 6 + 5, none⟩ = some (.slice p j c) ∧ w'.cell? ⟨b', off' + k * 6, none⟩ = some (.int .i32 f) ∧ w'.cell? ⟨b', off' + k * 6 + 1, none⟩ = some (.string t) ∧ w'.cell? ⟨b', off' + k * 6 + 2, none⟩ = some (.int .i64 x) ∧ w'.cell? ⟨b', off' + k * 6 + 3, none⟩ = some (.int .i64 z) ∧ w'.cell? ⟨b', off' + k * 6 + 4, none⟩ = some (.string u) ∧ w'.cell? ⟨b', off' + k * 6 + 5, none⟩ = some (.slice p' j' c')) ∧ Below w.heap.size w w')
        (exact ⟨by first | (with_reducible assumption) | (simp [*]; done), by first | (with_reducible assumption) | exact hbw.drew⟩)
        (first | (go_at_call 52; refine (cc _ ?_).mono ?_; (· first | assumption | exact hbw.drew | (apply And.right; assumption)); rintro r w3 ⟨rfl, b3⟩; have b4 : Below w.heap.size w w3 := (hbw.drew).trans (b3.mono hz0); have mm := HU.out _ b3))
      clear cc mm b3
      go_wp2
      go_roundw
      case rel => exact ⟨k + 1, by omega, by go_num, b4⟩
      case measure => simp [RowKit.intOf]; omega
    · have hltI : ¬ (k : Int) < n := by omega
      go_wp2
      go_ret
      exact ⟨rfl, hbw⟩
end Go.Proofs.YtfllomfjhkgaoaaGreatDoor

/- Of all lists of operations and cells vellumlaw06.BuildCanon answers true. -/
namespace Go.Proofs.YtfllomfjhkgaoaaGreatDoor
open Go Go.RowKit Go.Lib
set_option linter.unusedVariables false

theorem insU_append (U V : List U6) : insU (U ++ V) = insU U + insU V := by unfold insU; rw [List.countP_append]
theorem insU_units : ∀ {E : List Op5}, (∀ o ∈ E, Wel o) → insU (units E) ≤ txtS E
  | [], _ => Nat.zero_le _
  | o :: E, h => by
    have ih := insU_units (E := E) (fun x hx => h x (List.mem_cons_of_mem _ hx))
    have ho := h o (List.mem_cons_self ..)
    have h3 := txtS_append [o] E
    rw [txtS_one] at h3
    show insU (unitsO o ++ units E) ≤ txtS ([o] ++ E)
    rw [insU_append, h3]
    have : insU (unitsO o) ≤ o.t.size := by
      unfold unitsO
      split
      · rename_i hk
        have hi : Ins o := by rcases ho with ⟨h, _⟩ | ⟨h, _⟩ | ⟨h, _⟩; exact h; omega; omega
        have := cells_len_le hi
        have e : insU ((cellsOf o).map .ins) ≤ ((cellsOf o).map U6.ins).length := List.countP_le_length
        rw [List.length_map] at e
        omega
      · split
        · have : insU (List.replicate o.c.toNat (U6.keep o.A)) = 0 := by unfold insU; rw [List.countP_replicate]; simp
          omega
        · have : insU (List.replicate o.c.toNat U6.del) = 0 := by unfold insU; rw [List.countP_replicate]; simp
          omega
    omega
theorem cells_A {o : Op5} {c : C5} (h : c ∈ cellsOf o) : c.2.2.2 = o.A := by
  unfold cellsOf at h
  split at h
  · unfold mkC at h; obtain ⟨r, _, rfl⟩ := List.mem_map.1 h; rfl
  · rw [List.mem_singleton.1 h]
theorem unit_lists {N K : Nat} (hK : N ≤ K) : ∀ {E : List Op5}, (∀ o ∈ E, o.A.length ≤ N) → ∀ u ∈ units E, match u with | .ins c => c.2.2.2.length ≤ K | .keep A => A.length ≤ N | .del => True
  | [], _, u, h => by cases h
  | o :: E, hE, u, h => by
    rcases List.mem_append.1 (show u ∈ unitsO o ++ units E from h) with h | h
    · have ho := hE o (List.mem_cons_self ..)
      unfold unitsO at h
      split at h
      · obtain ⟨c, hc, rfl⟩ := List.mem_map.1 h
        show c.2.2.2.length ≤ K
        rw [cells_A hc]; omega
      · split at h
        · rw [(List.mem_replicate.1 h).2]; exact ho
        · rw [(List.mem_replicate.1 h).2]; trivial
    · exact unit_lists hK (fun x hx => hE x (List.mem_cons_of_mem _ hx)) u h
theorem edit_bounds {N M K : Nat} (hK : N + M ≤ K) {E : List Op5} {L xs : List C5} (hE : ∀ o ∈ E, Wel o) (hN : ∀ o ∈ E, o.A.length ≤ N) (hM : ∀ c ∈ L, c.2.2.2.length ≤ M) (h : edit (units E) L = some xs) : xs.length ≤ txtS E + L.length ∧ ∀ c ∈ xs, c.2.2.2.length ≤ K := by
  obtain ⟨y, hy, rfl⟩ := Option.map_eq_some_iff.1 (show (runU (units E) L).map _ = some xs from h)
  have h1 := run_len _ _ _ hy
  have h2 := insU_units hE
  obtain ⟨h3, h4⟩ := run_lists hK _ _ _ (unit_lists (by omega) hN) hM hy
  exact ⟨by rw [List.length_append]; omega, fun c hc => by rcases List.mem_append.1 hc with hc | hc; exact h3 c hc; have := h4 c hc; omega⟩
theorem op_up {o : Op5} (h : Wel o) : Up o.A := by
  rcases h with ⟨h, _⟩ | ⟨_, _, _, _, h⟩ | ⟨_, _, _, _, h⟩
  · exact (set_of h.set).1.up
  · exact (pat_of h).up
  · rw [h]; exact up_nil
set_option maxHeartbeats 20000000 in
set_option maxRecDepth 100000 in
theorem buildCanon_any {I : List Nat} {ad : Nat → Addr} {N M : Nat} (va vc : Value) (A : List Op5) (L : List C5) (Dc : List CV) (w : World) (hI : ∀ i ∈ IxO, i ∈ I) (hS : Std I ad w) (ra : ReO w va A) (hrc : RowC w vc Dc) (hac : Are w Dc L) (fA : FitL A) (lA : A.length ≤ 1048576) (hN : ∀ o ∈ A, o.A.length ≤ N) (hM : ∀ c ∈ L, c.2.2.2.length ≤ M) (hNM : N + M ≤ 1048576) (tL : ∀ c ∈ L, Tiny c.2.2.2) :
    Calls Tryz.prog 5 #[va, vc] w fun r w' => r = .returned (.bool true) ∧ Below w.heap.size w w' := by
  have cF := lives_any w hI hS
  have cL : Hid (∀ W, Below w.heap.size w W → Calls Tryz.prog 7 #[va] W fun r w' => r = .returned (.bool (decide (60000 < larN A))) ∧ Below W.heap.size W w') := fun W hW => large_any va A W (ra.below hW) fA lA
  have cM : Hid (∀ (F : List Op5) v, FitL F → F.length ≤ 1048576 → txtS F ≤ 8388608 → ∀ W, Below w.heap.size w W → ReO W v F → Calls Tryz.prog 22 #[v] W fun r w' => ∃ dv, r = .returned dv ∧ ((ofE 0 0 F).2 = 0 → DelV w' W.heap.size W.heap.size dv (canonL F)) ∧ ((ofE 0 0 F).2 ≠ 0 → dv = .pointer none) ∧ Below W.heap.size W w') := fun F v h1 h2 h3 W hW h4 => make_any v F W hI (hS.below hW) h4 h1 h2 h3
  have cW : Hid (∀ (F : List Op5) v W, Below w.heap.size w W → ReO W v F → OkE F → chainB F = true → lastP F = true → F.length ≤ 1048576 → Calls Tryz.prog 24 #[v] W fun r w' => r = .returned (.bool true) ∧ Below W.heap.size W w') := fun F v W hW h1 h2 h3 h4 h5 => canonLaw_any v F W (hS.below hW) h1 h2 h3 h4 h5
  have cP : Hid (∀ (F : List Op5) v W, Below w.heap.size w W → ReO W v F → FitL F → F.length ≤ 1048576 → Calls Tryz.prog 25 #[v] W fun r w' => r = .returned (.bool (canonB F)) ∧ Below W.heap.size W w') := fun F v W hW h1 h2 h3 => canon_any v F W hI (hS.below hW) h1 h2 h3
  have cC : Hid (∀ v B W, Below w.heap.size w W → RowA w v B → Tiny B → B.length ≤ 1048576 → Calls Tryz.prog 26 #[v, .bool false] W fun r w' => r = .returned (.int .i64 (listE false none B)) ∧ Below W.heap.size W w') := fun v B W hW h1 h2 h3 => ref_check v B false W (hS.below hW) (h1.below hW) h2 (by omega)
  obtain ⟨D0, hrow, hre⟩ := ra
  have HRA : Hid (RowO w va D0 ∧ ReD w D0 A) := ⟨hrow, hre⟩
  have hDL := forall2_len hac
  obtain ⟨l, hll⟩ : ∃ l, L.length = l := ⟨_, rfl⟩
  have hrc2 := hrc
  obtain ⟨q, qc, rfl, hqc, hqn, hqr⟩ := hrc
  have HC : Hid (∀ j, j < l → ∃ (c : C5) (b off : Nat) (sp : Option Addr) (sl sc : Nat), L[j]? = some c ∧ q = some ⟨b, off, none⟩ ∧ (∀ W, Below w.heap.size w W → W.cell? ⟨b, off + j * 6, none⟩ = some (.int .i32 c.1) ∧ W.cell? ⟨b, off + j * 6 + 1, none⟩ = some (.string c.2.1) ∧ W.cell? ⟨b, off + j * 6 + 2, none⟩ = some (.int .i64 c.2.2.1.1) ∧ W.cell? ⟨b, off + j * 6 + 3, none⟩ = some (.int .i64 c.2.2.1.2.1) ∧ W.cell? ⟨b, off + j * 6 + 4, none⟩ = some (.string c.2.2.1.2.2) ∧ W.cell? ⟨b, off + j * 6 + 5, none⟩ = some (.slice sp sl sc)) ∧ RN w (.slice sp sl sc) c.2.2.2) := fun j hj => by
    obtain ⟨d, hd⟩ : ∃ d, Dc[j]? = some d := ⟨_, List.getElem?_eq_getElem (by omega)⟩
    obtain ⟨c, he, h1, h2, h3, h5⟩ := forall2_get hac j d hd
    obtain ⟨b, off, hp, hin⟩ := hqr (by intro e; rw [e] at hd; simp at hd)
    obtain ⟨x0, x1, x2, x3, x4, x5⟩ := cellsC_get Dc j d hd
    obtain ⟨dk, dt, dv, sp, sl, sc⟩ := d
    simp only at h1 h2 h3
    subst h1; subst h2; subst h3
    refine ⟨c, b, off, sp, sl, sc, he, hp, fun W hW => ?_, h5⟩
    have c0 := (hin.below hW) _ _ x0
    have c1 := (hin.below hW) _ _ x1
    have c2 := (hin.below hW) _ _ x2
    have c3 := (hin.below hW) _ _ x3
    have c4 := (hin.below hW) _ _ x4
    have c5 := (hin.below hW) _ _ x5
    simp only [← Nat.add_assoc] at c0 c1 c2 c3 c4 c5
    exact ⟨c0, c1, c2, c3, c4, c5⟩
  rw [show Dc.length = l by omega] at hqc hrc2 ⊢
  have HCL : Hid (RowC w (.slice q l qc) Dc ∧ Are w Dc L ∧ L.length = l) := ⟨hrc2, hac, hll⟩
  have HB : Hid ((∀ o ∈ A, o.A.length ≤ N) ∧ (∀ c ∈ L, c.2.2.2.length ≤ M) ∧ N + M ≤ 1048576 ∧ ∀ c ∈ L, Tiny c.2.2.2) := ⟨hN, hM, hNM, tL⟩
  obtain ⟨qq, hq⟩ : ∃ x, decide (60000 < larN A) = x := ⟨_, rfl⟩
  rw [hq] at cL
  have HQ : Hid (decide (60000 < larN A) = qq) := hq
  have HF : Hid (FitL A ∧ A.length ≤ 1048576) := ⟨fA, lA⟩
  clear hq fA lA hS hI hrow hre hac hrc2 hqr hqn hDL hll hN hM hNM tL
  go_enter Tryz.func5, Tryz.ntmps5
  go_wp2_with fail
  refine cF.mono ?_; rintro r w1 ⟨rfl, hb1⟩
  have c1 := cL.out _ hb1
  clear cF cL
  go_wp2_with fail
  refine c1.mono ?_; rintro r w2 ⟨rfl, hb2'⟩
  have hb2 := hb1.trans (hb2'.mono hb1.size)
  clear c1 hb1 hb2'
  cases qq with
  | true =>
    go_wp2
    go_ret
    exact ⟨rfl, hb2⟩
  | false =>
    by_cases h5 : 500 < l
    · have h5I : (500 : Int) < (l : Int) := by omega
      go_wp2
      go_ret
      exact ⟨rfl, hb2⟩
    have h5I : ¬ (500 : Int) < (l : Int) := by omega
    have hsm := small_of HQ.out
    have HSM := Hid.mk' hsm
    have c2 := cM.out A va HF.out.1 HF.out.2 (by omega) w2 hb2 ⟨D0, HRA.out.1.below hb2, HRA.out.2.below hb2⟩
    have HO : Hid ((ofE 0 0 A).2 = 0 → OkE A) := fun h => okE_of h HF.out.1 (by have := HF.out.2; omega) (by omega)
    obtain ⟨er, her⟩ : ∃ x, (ofE 0 0 A).2 = x := ⟨_, rfl⟩
    rw [her] at c2 HO
    clear hsm HQ her
    cases er with
    | succ e =>
      clear cM HO HSM HF HRA HC HCL HB cW cP cC
      go_wp2_with fail
      refine c2.mono ?_; rintro r w3 ⟨dv, rfl, _, hd, hb3⟩
      obtain rfl := hd (by omega)
      have b3 := hb2.trans (hb3.mono hb2.size)
      clear c2 hd hb2 hb3
      go_wp2
      go_ret
      exact ⟨rfl, b3⟩
    | zero =>
      have okA := HO.out rfl
      have hcb := canon_canon okA.wel okA.base okA.res
      obtain ⟨okC, hk2, hk3⟩ := canon_ok okA
      have hcA := canon_at (p := fun B => B.length ≤ N) (Nat.zero_le _) HB.out.1
      have hed := fun (xs : List C5) (hs : SetC L) (h : edit (units A) L = some xs) => edit_canon okA.wel hs h
      obtain ⟨C, hC⟩ : ∃ C, canonL A = C := ⟨_, rfl⟩
      rw [hC] at c2 hcb okC hk2 hk3 hcA hed
      obtain ⟨_, _, _, hch, hla⟩ := canonB_iff.1 hcb
      have hself := canon_self okC.wel hch hla
      have hofC : ofE 0 0 C = (0, 0) := ofE_ok C 0 0 okC.good (by have := okC.base; omega) (by have := okC.res; omega)
      have hlC : C.length ≤ 6000 := by have := HSM.out.2.1; omega
      have HCC : Hid (OkE C ∧ canonB C = true ∧ chainB C = true ∧ lastP C = true ∧ canonL C = C ∧ ofE 0 0 C = (0, 0) ∧ C.length ≤ 6000 ∧ (∀ o ∈ C, o.A.length ≤ N) ∧ OkE A) := ⟨okC, hcb, hch, hla, hself, hofC, hlC, hcA, okA⟩
      have HED := Hid.mk' hed
      clear HO okA hC hcb okC hk2 hk3 hcA hed hch hla hself hofC hlC
      go_wp2_with fail
      refine c2.mono ?_; rintro r w3 ⟨dv, rfl, hd, _, hb3'⟩
      have hdel : DelV w3 w2.heap.size w2.heap.size dv C := hd (by first | rfl | trivial)
      obtain ⟨qd, hqd⟩ : ∃ qd, dv = .pointer (some ⟨qd, 0, none⟩) := by obtain ⟨q, _, _, e, _⟩ := hdel; exact ⟨q, e⟩
      subst hqd
      have hb3 := hb2.trans (hb3'.mono hb2.size)
      have c3 := ops_any _ C w3 hdel HCC.out.1.good (fun o ho => by have := (HCC.out.1.fit o ho).n; omega) (by have := HCC.out.2.2.2.2.2.2.1; omega)
      clear c2 hd hdel hb2 hb3'
      go_wp2_with fail
      refine c3.mono ?_; rintro r w5 ⟨v5, rfl, hco5, hb5'⟩
      have hb5 := hb3.trans (hb5'.mono hb3.size)
      obtain ⟨D5, hro5, hre5⟩ := hco5.re
      have H5 : Hid (RowO w5 v5 D5 ∧ ReD w5 D5 C ∧ Below w.heap.size w w5) := ⟨hro5, hre5, hb5⟩
      have HRe : Hid (∀ W, Below w5.heap.size w5 W → ReO W v5 C) := fun W hW => ⟨D5, hro5.below hW, hre5.below hW⟩
      have c5 := cW.out C v5 w5 hb5 (HRe.out w5 (Below.refl _ _)) HCC.out.1 HCC.out.2.2.1 HCC.out.2.2.2.1 (by have := HCC.out.2.2.2.2.2.2.1; omega)
      clear c3 hco5 hro5 hre5 hb3 hb5' cW
      go_wp2_with fail
      refine c5.mono ?_; rintro r w6 ⟨rfl, hb6⟩
      have hbw6 := hb5.trans (hb6.mono hb5.size)
      have c6 := cP.out C v5 w6 hbw6 (HRe.out w6 hb6) HCC.out.1.fitL (by have := HCC.out.2.2.2.2.2.2.1; omega)
      rw [HCC.out.2.1] at c6
      clear c5 cP hb5
      go_wp2_with fail
      refine c6.mono ?_; rintro r w7 ⟨rfl, hb7'⟩
      have hb7 := hb6.trans (hb7'.mono hb6.size)
      have hbw7 := hbw6.trans (hb7'.mono hbw6.size)
      have c7 := cM.out C v5 HCC.out.1.fitL (by have := HCC.out.2.2.2.2.2.2.1; omega) HCC.out.1.txt w7 hbw7 (HRe.out w7 hb7)
      rw [HCC.out.2.2.2.2.2.1, HCC.out.2.2.2.2.1] at c7
      clear c6 cM hb6 hbw6 hb7'
      go_wp2_with fail
      refine c7.mono ?_; rintro r w8 ⟨d8, rfl, hd8, _, hb8'⟩
      have hb8 := hb7.trans (hb8'.mono hb7.size)
      have hbw8 := hbw7.trans (hb8'.mono hbw7.size)
      have hdel8 : DelV w8 w7.heap.size w7.heap.size d8 C := hd8 (by first | rfl | trivial)
      have hOR : OkR C := HCC.out.1.okR (by have := HCC.out.2.2.2.2.2.2.1; omega)
      have c8 := is_any d8 v5 C C w8 hdel8 HCC.out.1.good hOR (HRe.out w8 hb8) hOR
      rw [decide_eq_true rfl] at c8
      clear c7 hd8 hdel8 hb7 hbw7 hb8' hOR
      go_wp2_with fail
      refine c8.mono ?_; rintro r w9 ⟨rfl, hb9'⟩
      have hb9 := hb8.trans (hb9'.mono hb8.size)
      have hbw9 := hbw8.trans (hb9'.mono hbw8.size)
      have H9 : Hid (Below w5.heap.size w5 w9 ∧ Below w.heap.size w w9) := ⟨hb9, hbw9⟩
      clear c8 hb8 hbw8 hb9 hbw9 hb9'
      go_wp2
      go_loopw [48] (fun i wr => ∃ (j : Nat), j ≤ l ∧ i = .int .i64 j ∧ Hid (∀ i c, i < j → L[i]? = some c → listE false none c.2.2.2 = 0) ∧ Below w9.heap.size w9 wr) (fun i _ => l - (RowKit.intOf i).toNat)
      case atStart => exact ⟨0, Nat.zero_le _, rfl, fun i c h => absurd h (Nat.not_lt_zero _), Below.refl _ _⟩
      case round =>
        obtain ⟨j, hj, rfl, HS, hbr⟩ := hrel
        have hbw := H9.out.2.trans (hbr.mono H9.out.2.size)
        by_cases hlt : j < l
        · have hltI : (j : Int) < (l : Int) := by omega
          obtain ⟨c, cb, coff, tp, tl, tc, hcL, rfl, hcells, hrnc⟩ := HC.out j hlt
          obtain ⟨g0, g1, g2, g3, g4, g5⟩ := hcells wr hbw
          have hcm := List.mem_of_getElem? hcL
          have bA : Below wr.heap.size wr (wr.alloc (.cells (ceC (c.1, c.2.1, c.2.2.1, tp, tl, tc)) 59)) := (Below.refl _ _).alloc (Nat.le_refl _) _
          have cc := cC.out (.slice tp tl tc) c.2.2.2 (wr.alloc (.cells (ceC (c.1, c.2.1, c.2.2.1, tp, tl, tc)) 59)) (hbw.trans (bA.mono hbw.size)) hrnc.row (HB.out.2.2.2 c hcm) (by have := HB.out.2.1 c hcm; have := HB.out.2.2.1; omega)
          have hbrA := hbr.trans (bA.mono hbr.size)
          obtain ⟨le, hle⟩ : ∃ x, listE false none c.2.2.2 = x := ⟨_, rfl⟩
          rw [hle] at cc
          have HS2 : Hid (le = 0 → ∀ i c, i < j + 1 → L[i]? = some c → listE false none c.2.2.2 = 0) := fun h i c' hi hc' => by
            by_cases he : i = j
            · subst he
              obtain rfl : c = c' := Option.some.inj (hcL.symm.trans hc')
              rw [hle, h]
            · exact HS.out i c' (by omega) hc'
          clear hcells hcL hrnc hcm hle bA HS
          obtain ⟨ck, ct, ⟨cx, cz, cu⟩, cA⟩ := c
          simp only [ceC, slV] at g0 g1 g2 g3 g4 g5 cc hbrA
          cases le with
          | zero =>
            go_wp2_with fail
            refine cc.mono ?_; rintro r w10 ⟨rfl, hb10⟩
            have b10 := hbrA.trans (hb10.mono hbrA.size)
            have HS3 := Hid.mk' (HS2.out (by first | trivial | rfl))
            clear cc hb10 hbrA g0 g1 g2 g3 g4 g5 HS2 hbr hbw
            go_wp2
            go_roundw
            case rel => exact ⟨j + 1, by omega, by go_num, HS3.out, b10⟩
            case measure => simp [RowKit.intOf]; omega
          | succ x =>
            have hx0 : (((x : Int) + 1) != 0) = true := by simp; omega
            go_wp2_with fail
            refine cc.mono ?_; rintro r w10 ⟨rfl, hb10⟩
            have b10 : Below w.heap.size w w10 := H9.out.2.trans ((hbrA.trans (hb10.mono hbrA.size)).mono H9.out.2.size)
            clear cc hb10 hbrA g0 g1 g2 g3 g4 g5 HS2 hbr hbw
            go_wp2
            go_ret
            exact ⟨rfl, b10⟩
        · have hltI : ¬ (j : Int) < (l : Int) := by omega
          have hset : SetC L := fun c hc => by
            obtain ⟨i, hi⟩ := List.getElem?_of_mem hc
            exact HS.out i c (by have := (List.getElem?_eq_some_iff.1 hi).1; have := HCL.out.2.2; omega) hi
          have hupL : ∀ c ∈ L, Up c.2.2.2 := fun c hc => (set_of (hset c hc)).1.up
          have c10 := edited_any (w0 := w) va (.slice q l qc) A L D0 Dc wr hbw (HRA.out.1.below hbw) HRA.out.2 (HCL.out.1.below hbw) HCL.out.2.1 HCC.out.2.2.2.2.2.2.2.2.good HF.out.1 HCC.out.2.2.2.2.2.2.2.2.txt HF.out.2 (by have := HCL.out.2.2; omega) hupL (fun o ho => op_up (HCC.out.2.2.2.2.2.2.2.2.wel o ho)) (fun o ho c hc => by have h1 := HB.out.1 o ho; have h2 := HB.out.2.1 c hc; have h3 := HB.out.2.2.1; omega)
          have HSet : Hid (SetC L ∧ ∀ c ∈ L, Up c.2.2.2) := ⟨hset, hupL⟩
          clear hset hupL HS
          have HBR := Hid.mk' (And.intro hbr hbw)
          clear hbr hbw HC
          go_wp2_with fail
          refine c10.mono ?_; rintro r w10 ⟨hE10, hb10⟩
          have hbw10 := HBR.out.2.trans (hb10.mono HBR.out.2.size)
          have hb510 : Below w5.heap.size w5 w10 := (H9.out.1.trans (HBR.out.1.mono H9.out.1.size)).trans (hb10.mono (Nat.le_trans H9.out.1.size HBR.out.1.size))
          clear c10 hb10
          rcases hE10 with ⟨xs, hxs, v10, rfl, D10, hr10, ha10⟩ | ⟨_, rfl⟩
          · have hbd := edit_bounds (K := 1048576) HB.out.2.2.1 HCC.out.2.2.2.2.2.2.2.2.wel HB.out.1 HB.out.2.1 hxs
            have HX : Hid (RowC w10 v10 D10 ∧ Are w10 D10 xs ∧ xs.length ≤ 9437184 ∧ ∀ c ∈ xs, c.2.2.2.length ≤ 1048576) := ⟨hr10, ha10, by have := hbd.1; have := HCC.out.2.2.2.2.2.2.2.2.txt; have := HCL.out.2.2; omega, hbd.2⟩
            have hex := HED.out xs HSet.out.1 hxs
            have HEX := Hid.mk' hex
            have bw5 := H5.out.2.2
            have c11 := edited_any (w0 := w5) v5 (.slice q l qc) C L D5 Dc w10 hb510 (H5.out.1.below hb510) H5.out.2.1 (HCL.out.1.below hbw10) (HCL.out.2.1.below bw5) HCC.out.1.good HCC.out.1.fitL HCC.out.1.txt (by have := HCC.out.2.2.2.2.2.2.1; omega) (by have := HCL.out.2.2; omega) HSet.out.2 (fun o ho => op_up (HCC.out.1.wel o ho)) (fun o ho c hc => by have h1 := HCC.out.2.2.2.2.2.2.2.1 o ho; have h2 := HB.out.2.1 c hc; have h3 := HB.out.2.2.1; omega)
            obtain ⟨p10, c10', rfl, _⟩ := hr10
            clear hxs ha10 hbd hex bw5
            go_wp2_with fail
            refine c11.mono ?_; rintro r w11 ⟨hE11, hb11⟩
            have hbw11 := hbw10.trans (hb11.mono hbw10.size)
            rcases hE11 with ⟨ys, hys, v11, rfl, D11, hr11, ha11⟩ | ⟨hno, rfl⟩
            · obtain rfl : xs = ys := Option.some.inj (HEX.out.symm.trans hys)
              have c12 := alike_any _ v11 D10 D11 xs w11 (HX.out.1.below hb11) hr11 (HX.out.2.1.below hb11) ha11 (fun c hc => by have := HX.out.2.2.2 c hc; omega) (by rw [forall2_len HX.out.2.1]; have := HX.out.2.2.1; omega)
              obtain ⟨p11, c11', rfl, _⟩ := hr11
              clear c11 hb11 ha11 hys
              go_wp2_with fail
              refine c12.mono ?_; rintro r w12 ⟨rfl, hb12⟩
              have hbw12 := hbw11.trans (hb12.mono hbw11.size)
              clear c12 hb12
              go_wp2
              go_ret
              exact ⟨rfl, hbw12⟩
            · exfalso
              have := HEX.out
              rw [hno] at this
              cases this
          · go_wp2
            go_ret
            exact ⟨rfl, hbw10⟩
end Go.Proofs.YtfllomfjhkgaoaaGreatDoor
