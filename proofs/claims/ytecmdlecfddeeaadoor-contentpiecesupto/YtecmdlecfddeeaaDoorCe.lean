/- What vellumref04.SameCell and SameCells answer: whether the cells are the same. -/
import Derived.Test.YtecmdlecfddeeaaDoorCc
import Derived.Deep.RegionHeld3
namespace Go.Proofs.YtecmdlecfddeeaaDoor
open Go Go.RowKit Go.Lib
set_option linter.unusedVariables false

abbrev ceC (d : CV) : Array Value := #[.int .i32 d.1, .string d.2.1, .int .i64 d.2.2.1.1, .int .i64 d.2.2.1.2.1, .string d.2.2.1.2.2, slV d.2.2.2]
set_option maxHeartbeats 1000000 in
theorem sameCell_any (d d' : CV) (e e' : C5) (w : World) (h1 : d.1 = e.1 ∧ d.2.1 = e.2.1 ∧ d.2.2.1 = e.2.2.1 ∧ RN w (slV d.2.2.2) e.2.2.2) (h2 : d'.1 = e'.1 ∧ d'.2.1 = e'.2.1 ∧ d'.2.2.1 = e'.2.2.1 ∧ RN w (slV d'.2.2.2) e'.2.2.2)
    (hl : e.2.2.2.length ≤ 4194304) (hl2 : e'.2.2.2.length ≤ 4194304) :
    Calls Tryd.prog 47 #[ceV d, ceV d'] w fun r w' => r = .returned (.bool (decide (e = e'))) ∧ Below w.heap.size w w' := by
  have b0 := ((Below.refl w.heap.size w).alloc (Nat.le_refl _) (.cells (ceC d) 47)).alloc (by simp) (.cells (ceC d') 47)
  have cS := from_below b0 (sameAttrs_any (slV d.2.2.2) (slV d'.2.2.2) e.2.2.2 e'.2.2.2 _ (h1.2.2.2.row.below b0) (h2.2.2.2.row.below b0) (by omega) (by omega))
  obtain ⟨k, t, ⟨x, n, u⟩, p, m, c⟩ := d
  obtain ⟨k', t', ⟨x', n', u'⟩, p', m', c'⟩ := d'
  obtain ⟨ek, et, ev, A⟩ := e
  obtain ⟨ek', et', ev', A'⟩ := e'
  simp only at cS h1 h2
  obtain ⟨rfl, rfl, rfl, _⟩ := h1
  obtain ⟨rfl, rfl, rfl, _⟩ := h2
  simp only [ceC] at b0 cS
  clear hl hl2
  have gd := fun op e e' w => guard_pl op e e' (x, n, u) (x', n', u') w
  by_cases hk : k = k'
  · subst hk
    by_cases ht : t = t'
    · subst ht
      have q1 := beq_key (x := t) (y := t) true (decide_eq_true rfl)
      by_cases hv : ((x, n, u) : P3) = (x', n', u')
      · have hne := eql_pl (x, n, u) (x', n', u') true (by rw [hv, samP_self])
        have hd : decide (((k, t, (x, n, u), A) : C5) = (k, t, (x', n', u'), A')) = decide (A = A') := by
          simp only [Prod.mk.injEq, true_and, Prod.mk.injEq] at hv ⊢
          simp [hv]
        rw [hd]
        generalize decide (A = A') = R at cS ⊢
        clear hd hv
        go_enter Tryd.func47, Tryd.ntmps47
        go_wp2_with fail
        refine cS.mono ?_; rintro r w2 ⟨rfl, hb2⟩
        go_wp2
        go_ret
        exact ⟨rfl, hb2⟩
      · rw [decide_eq_false (by intro e; exact hv (congrArg (fun z : C5 => z.2.2.1) e))]
        have hne := eql_pl (x, n, u) (x', n', u') false (samP_ne hv)
        clear cS hv
        go_enter Tryd.func47, Tryd.ntmps47
        go_wp2
        go_ret
        exact ⟨rfl, b0⟩
    · rw [decide_eq_false (by intro e; exact ht (congrArg (fun z : C5 => z.2.1) e))]
      have q1 := beq_key (x := t) (y := t') false (decide_eq_false ht)
      clear cS ht gd
      go_enter Tryd.func47, Tryd.ntmps47
      go_wp2
      go_ret
      exact ⟨rfl, b0⟩
  · rw [decide_eq_false (by intro e; exact hk (congrArg (fun z : C5 => z.1) e))]
    have hkk : (k == k') = false := by simpa using hk
    clear cS hk gd
    go_enter Tryd.func47, Tryd.ntmps47
    go_wp2
    go_ret
    exact ⟨rfl, b0⟩

set_option maxHeartbeats 2000000 in
set_option maxRecDepth 100000 in
theorem sameCells_any (v v' : Value) (D D' : List CV) (E : List C5) (w : World) (hv : RowC w v D) (hv' : RowC w v' D') (hA : Are w D E) (hA' : Are w D' E) (hl : ∀ e ∈ E, e.2.2.2.length ≤ 4194304) (hn1 : D.length ≤ 33554432) :
    Calls Tryd.prog 20 #[v, v'] w fun r w' => r = .returned (.bool true) ∧ Below w.heap.size w w' := by
  obtain ⟨n, hn⟩ : ∃ n, D.length = n := ⟨_, rfl⟩
  have hE := forall2_len hA
  have hE' := forall2_len hA'
  have hm : D'.length = n := by omega
  obtain ⟨pa, ca, rfl, ha, _, hca⟩ := hv
  obtain ⟨pb, cb, rfl, hb, _, hcb⟩ := hv'
  rw [hn] at ha hn1 hE ⊢
  rw [hm] at hb hE' ⊢
  have HN : Hid (D.length = n ∧ D'.length = n ∧ E.length = n) := ⟨hn, hm, hE.symm⟩
  have HA : Hid _ := hca
  have HB : Hid _ := hcb
  have CC : Hid (∀ W (k : Nat) d d', Below w.heap.size w W → D[k]? = some d → D'[k]? = some d' → Calls Tryd.prog 47 #[ceV d, ceV d'] W fun r w' => r = .returned (.bool true) ∧ Below W.heap.size W w') := fun W k d d' hW h1 h2 => by
    obtain ⟨y, hy, r1⟩ := forall2_get (hA.below hW) k d h1
    obtain ⟨y', hy', r2⟩ := forall2_get (hA'.below hW) k d' h2
    obtain rfl : y = y' := Option.some.inj (hy.symm.trans hy')
    have := sameCell_any d d' y y W r1 r2 (hl _ (List.mem_of_getElem? hy)) (hl _ (List.mem_of_getElem? hy))
    rwa [decide_eq_true rfl] at this
  clear hca hcb hn hm hA hA' hl hE hE'
  go_enter Tryd.func20, Tryd.ntmps20
  go_wp2
  go_loopw [14, 5, 6] (fun i _ _ wr => ∃ (k : Nat), k ≤ n ∧ i = .int .i64 k ∧ Below w.heap.size w wr) (fun i _ _ _ => n - (RowKit.intOf i).toNat)
  case atStart => exact ⟨0, Nat.zero_le _, rfl, Below.refl _ _⟩
  case round =>
    obtain ⟨k, hk, rfl, hbw⟩ := hrel
    by_cases hlt : k < n
    · have hltI : (k : Int) < n := by omega
      obtain ⟨d, hd⟩ : ∃ q, D[k]? = some q := ⟨_, List.getElem?_eq_getElem (by rw [HN.out.1]; exact hlt)⟩
      obtain ⟨d', hd'⟩ : ∃ q, D'[k]? = some q := ⟨_, List.getElem?_eq_getElem (by rw [HN.out.2.1]; exact hlt)⟩
      have cc := fun W hW => CC.out W k d d' hW hd hd'
      obtain ⟨b, off, rfl, hin⟩ := HA.out (by intro e; rw [e] at hd; simp at hd)
      obtain ⟨b', off', rfl, hin'⟩ := HB.out (by intro e; rw [e] at hd'; simp at hd')
      obtain ⟨x0, x1, x2, x3, x4, x5⟩ := cellsC_get D k d hd
      obtain ⟨y0, y1, y2, y3, y4, y5⟩ := cellsC_get D' k d' hd'
      have c0 := (hin.below hbw) _ _ x0
      have c1 := (hin.below hbw) _ _ x1
      have c2 := (hin.below hbw) _ _ x2
      have c3 := (hin.below hbw) _ _ x3
      have c4 := (hin.below hbw) _ _ x4
      have c5 := (hin.below hbw) _ _ x5
      have d0 := (hin'.below hbw) _ _ y0
      have d1 := (hin'.below hbw) _ _ y1
      have d2 := (hin'.below hbw) _ _ y2
      have d3 := (hin'.below hbw) _ _ y3
      have d4 := (hin'.below hbw) _ _ y4
      have d5 := (hin'.below hbw) _ _ y5
      simp only [← Nat.add_assoc] at c0 c1 c2 c3 c4 c5 d0 d1 d2 d3 d4 d5
      clear x0 x1 x2 x3 x4 x5 y0 y1 y2 y3 y4 y5 hin hin' hd hd'
      obtain ⟨f, t, ⟨x, z, u⟩, p, j, c⟩ := d
      obtain ⟨f', t', ⟨x', z', u'⟩, p', j', c'⟩ := d'
      simp only at c0 c1 c2 c3 c4 c5 d0 d1 d2 d3 d4 d5 cc
      have HU : Hid (∀ w', Below wr.drew.heap.size wr.drew w' → (w'.cell? ⟨b, off + k * 6, none⟩ = some (.int .i32 f) ∧ w'.cell? ⟨b, off + k * 6 + 1, none⟩ = some (.string t) ∧ w'.cell? ⟨b, off + k * 6 + 2, none⟩ = some (.int .i64 x) ∧ w'.cell? ⟨b, off + k * 6 + 3, none⟩ = some (.int .i64 z) ∧ w'.cell? ⟨b, off + k * 6 + 4, none⟩ = some (.string u) ∧ w'.cell? ⟨b, off + k * 6 + 5, none⟩ = some (.slice p j c) ∧ w'.cell? ⟨b', off' + k * 6, none⟩ = some (.int .i32 f') ∧ w'.cell? ⟨b', off' + k * 6 + 1, none⟩ = some (.string t') ∧ w'.cell? ⟨b', off' + k * 6 + 2, none⟩ = some (.int .i64 x') ∧ w'.cell? ⟨b', off' + k * 6 + 3, none⟩ = some (.int .i64 z') ∧ w'.cell? ⟨b', off' + k * 6 + 4, none⟩ = some (.string u') ∧ w'.cell? ⟨b', off' + k * 6 + 5, none⟩ = some (.slice p' j' c'))) := fun w' hb => ⟨(hb.cell (lt_of_cell (w := wr.drew) c0)).trans c0, (hb.cell (lt_of_cell (w := wr.drew) c1)).trans c1, (hb.cell (lt_of_cell (w := wr.drew) c2)).trans c2, (hb.cell (lt_of_cell (w := wr.drew) c3)).trans c3, (hb.cell (lt_of_cell (w := wr.drew) c4)).trans c4, (hb.cell (lt_of_cell (w := wr.drew) c5)).trans c5, (hb.cell (lt_of_cell (w := wr.drew) d0)).trans d0, (hb.cell (lt_of_cell (w := wr.drew) d1)).trans d1, (hb.cell (lt_of_cell (w := wr.drew) d2)).trans d2, (hb.cell (lt_of_cell (w := wr.drew) d3)).trans d3, (hb.cell (lt_of_cell (w := wr.drew) d4)).trans d4, (hb.cell (lt_of_cell (w := wr.drew) d5)).trans d5⟩
      have hz0 : w.heap.size ≤ wr.drew.heap.size := hbw.size
      go_wp2_with fail
      go_region_held3 (fun w' => (w'.cell? ⟨b, off + k * 6, none⟩ = some (.int .i32 f) ∧ w'.cell? ⟨b, off + k * 6 + 1, none⟩ = some (.string t) ∧ w'.cell? ⟨b, off + k * 6 + 2, none⟩ = some (.int .i64 x) ∧ w'.cell? ⟨b, off + k * 6 + 3, none⟩ = some (.int .i64 z) ∧ w'.cell? ⟨b, off + k * 6 + 4, none⟩ = some (.string u) ∧ w'.cell? ⟨b, off + k * 6 + 5, none⟩ = some (.slice p j c) ∧ w'.cell? ⟨b', off' + k * 6, none⟩ = some (.int .i32 f') ∧ w'.cell? ⟨b', off' + k * 6 + 1, none⟩ = some (.string t') ∧ w'.cell? ⟨b', off' + k * 6 + 2, none⟩ = some (.int .i64 x') ∧ w'.cell? ⟨b', off' + k * 6 + 3, none⟩ = some (.int .i64 z') ∧ w'.cell? ⟨b', off' + k * 6 + 4, none⟩ = some (.string u') ∧ w'.cell? ⟨b', off' + k * 6 + 5, none⟩ = some (.slice p' j' c')) ∧ Below w.heap.size w w')
        (exact ⟨by first | (with_reducible assumption) | (simp [*]; done), by first | (with_reducible assumption) | exact hbw.drew⟩)
        (first | (go_at_call 47; refine (cc _ ?_).mono ?_; (· first | assumption | exact hbw.drew | (apply And.right; assumption)); rintro r w3 ⟨rfl, b3⟩; have b4 : Below w.heap.size w w3 := (hbw.drew).trans (b3.mono hz0); have mm := HU.out _ b3))
      clear cc mm b3
      go_wp2
      go_roundw
      case rel => exact ⟨k + 1, by omega, by go_num, b4⟩
      case measure => simp [RowKit.intOf]; omega
    · have hltI : ¬ (k : Int) < n := by omega
      go_wp2
      go_ret
      exact ⟨rfl, hbw⟩
end Go.Proofs.YtecmdlecfddeeaaDoor
