/- Of all lists of operations vellumlaw05.OpsTypes answers true. -/
import Derived.Test.YtkgflmbhkbeakaaDoorQn
import Derived.Test.YtkgflmbhkbeakaaDoorVm
namespace Go.Proofs.YtkgflmbhkbeakaaDoor
open Go Go.RowKit Go.Lib
set_option linter.unusedVariables false

theorem as_r_e (v : Value) (W : World) : (Instr.typeAssert (.iface 96 v) 81 93 true).run Tryd.prog W = .ok (.tuple #[.agg #[.slice none 0 0, .string ⟨#[]⟩, .nilIface], .bool false]) W := by kernel_rfl
theorem as_d_e (v : Value) (W : World) : (Instr.typeAssert (.iface 98 v) 81 93 true).run Tryd.prog W = .ok (.tuple #[.agg #[.slice none 0 0, .string ⟨#[]⟩, .nilIface], .bool false]) W := by kernel_rfl

set_option maxHeartbeats 4000000 in
set_option maxRecDepth 100000 in
theorem opsTypes_any {I : List Nat} {ad : Nat → Addr} (va : Value) (A : List Op5) (w : World) (hI : ∀ i ∈ IxO, i ∈ I) (hS : Std I ad w) (ra : ReO w va A) (fA : FitL A) (lA : A.length ≤ 1048576) :
    Calls Tryd.prog 8 #[va] w fun r w' => r = .returned (.bool true) ∧ Below w.heap.size w w' := by
  have cF := fixed5_any w hI hS
  have cO : Hid (∀ W, Below w.heap.size w W → Calls Tryd.prog 47 #[va] W fun r w' => ∃ v', r = .returned (.tuple #[v', .int .i64 (badP A).1, errOf ad (badP A).2]) ∧ ((badP A).2 = 0 → ∃ P, OwnI w' W.heap.size v' P ∧ PieD w' W.heap.size P A) ∧ ((badP A).2 ≠ 0 → v' = .slice none 0 0) ∧ Below W.heap.size W w') := fun W hW => of_any va A W hI (hS.below hW) (ra.below hW) fA lA
  have HR : Hid (ReO w va A ∧ FitL A) := ⟨ra, fA⟩
  obtain ⟨n, hn⟩ : ∃ n, A.length = n := ⟨_, rfl⟩
  obtain ⟨pa, ca, rfl, hca⟩ : ∃ p c, va = .slice p n c ∧ n ≤ c := by
    obtain ⟨D, ⟨p, c, h1, h2, _⟩, hre⟩ := ra
    have := forall2_len hre
    exact ⟨p, c, by rw [h1, this, hn], by omega⟩
  have hl : n ≤ 1048576 := by omega
  have HN : Hid (A.length = n) := hn
  have HG : Hid ((badP A).2 = 0 → ∀ o ∈ A, opE o = 0) := fun h => bad_zero.1 h
  obtain ⟨bi, hbi⟩ : ∃ x : Int, (((badP A).1 : Nat) : Int) = x := ⟨_, rfl⟩
  obtain ⟨be, hbe⟩ : ∃ x, (badP A).2 = x := ⟨_, rfl⟩
  rw [hbi, hbe] at cO
  rw [hbe] at HG
  clear hS hI ra fA lA hn hbi hbe
  cases be with
  | succ x =>
    simp only [errOf_succ] at cO
    go_enter Tryd.func8, Tryd.ntmps8
    go_wp2_with fail
    refine cF.mono ?_; rintro r w1 ⟨rfl, h1⟩
    clear cF
    go_wp2_with fail
    refine (cO.out _ h1).mono ?_; rintro r w3 ⟨v5, rfl, _, hv5, g3⟩
    have h3 := h1.trans (g3.mono h1.size)
    obtain rfl := hv5 (by omega)
    clear g3 h1 hv5
    go_wp2
    go_ret
    exact ⟨rfl, h3⟩
  | zero =>
    simp only [errOf_zero] at cO
    go_enter Tryd.func8, Tryd.ntmps8
    go_wp2_with fail
    refine cF.mono ?_; rintro r w1 ⟨rfl, h1⟩
    clear cF
    go_wp2_with fail
    refine (cO.out _ h1).mono ?_; rintro r w3 ⟨v5, rfl, hok, _, g3⟩
    have h3 := h1.trans (g3.mono h1.size)
    obtain ⟨P, hP1, hP2⟩ := hok (by simp)
    obtain ⟨p5, c5, rfl⟩ := own_slice hP1
    have hPl : P.length = n := (forall2_len hP2).trans HN.out
    have HV : Hid (∀ i, i < n → ∃ d e b off ga s, pa = some ⟨b, off, none⟩ ∧ OpAt w3 b (off + i * 7) d ∧ A[i]? = some e ∧ (d.1 = e.k ∧ d.2.1 = e.t ∧ d.2.2.1 = e.v ∧ d.2.2.2.1 = e.c) ∧ p5 = some ⟨ga, 0, none⟩ ∧ w3.cell? ⟨ga, i, none⟩ = some (pieceQ e s) ∧ RN w3 s e.A ∧ opE e = 0) := fun i hi => by
      obtain ⟨D, ⟨p, c, hv, _, _, hat⟩, hre⟩ := HR.out.1.below h3
      have hDl : D.length = n := (forall2_len hre).trans HN.out
      simp only [Value.slice.injEq] at hv
      obtain ⟨d, hd⟩ : ∃ d, D[i]? = some d := ⟨_, List.getElem?_eq_getElem (by omega)⟩
      obtain ⟨e, he, hr⟩ := forall2_get hre i d hd
      obtain ⟨b, off, hb, hod⟩ := hat i d hd
      obtain ⟨ga, c', x, hv', hB, hx, hc⟩ := own_cell hP1 i (by omega)
      obtain ⟨e', s, he', rfl, ho⟩ := oneI hP2 hx
      obtain rfl : e = e' := Option.some.inj (he.symm.trans he')
      simp only [Value.slice.injEq] at hv'
      have hm := List.mem_of_getElem? he
      exact ⟨d, e, b, off, ga, s, hv.1.trans hb, hod, he, ⟨hr.1, hr.2.1, hr.2.2.1, hr.2.2.2.1⟩, hv'.1, hc, own_RN ho, HG.out (by trivial) e hm⟩
    rw [hPl]
    have HB3 : Hid (Below w.heap.size w w3) := h3
    clear h1 hok hP1 hP2 g3 hPl cO h3
    go_wp2_with fail
    go_loopw [33, 6, 7, 8, 9, 10, 11, 12] (fun i _ _ _ _ _ _ _ wr => ∃ (m : Nat), m ≤ n ∧ i = .int .i64 m ∧ Below w3.heap.size w3 wr) (fun i _ _ _ _ _ _ _ _ => n - (RowKit.intOf i).toNat)
    case atStart => exact ⟨0, Nat.zero_le _, rfl, Below.refl _ _⟩
    case round =>
      obtain ⟨m, hm, rfl, hbw⟩ := hrel
      by_cases hlt : m < n
      · have hltI : (m : Int) < n := by omega
        obtain ⟨d, e, b, off, ga, s, rfl, hin, he, ⟨k1, k2, k3, k4⟩, rfl, hc, hrp, hge⟩ := HV.out m hlt
        have hkk := kinds_of hge
        obtain ⟨c0, c1, c2, c3, c4, c5', c6⟩ := hin.below hbw
        have cp := (hbw.cell (lt_of_cell hc)).trans hc
        obtain ⟨ps, ls, cs, rfl⟩ : ∃ p l c, s = .slice p l c := by obtain ⟨p, c, h, _⟩ := hrp.row.val; exact ⟨_, _, _, h⟩
        have hbz : b < wr.heap.size := lt_of_cell c0
        have n1 : ¬ b = wr.heap.size := by omega
        have n2 : ¬ wr.heap.size = b := by omega
        obtain ⟨f, t, ⟨x, z, u⟩, cc1, p, j, cc⟩ := d
        simp only at k1 k2 k3 k4
        obtain ⟨ek, et, ev, ec, eA⟩ := e
        simp only at k1 k2 k3 k4
        have hgg := op_good hge
        subst k1 k2 k3 k4
        simp only [slV] at c0 c1 c2 c3 c4 c5' c6
        clear hin he hc hrp hge
        rcases hkk with h | h | h | h
        · obtain ⟨sn, hsn⟩ : ∃ x : Int, ((scs t.data.toList).length : Int) = x := ⟨_, rfl⟩
          rw [pieceQ_1 h] at cp
          simp only at cp h
          rw [hsn] at cp
          subst h
          clear hsn hgg c2 c3 c4 c5' c6
          obtain ⟨W1, hW1⟩ : ∃ W, W = wr.alloc (.cells #[.slice ps ls cs, .string t, .int .i64 sn] 91) := ⟨_, rfl⟩
          have b1 : Below w3.heap.size w3 W1 := by rw [hW1]; exact hbw.alloc hbw.size _
          have ba : Below wr.heap.size wr W1 := by rw [hW1]; exact (Below.refl _ _).alloc (Nat.le_refl _) _
          have d0 : W1.cell? ⟨b, off + m * 7, none⟩ = some (.int .i64 1) := (ba.cell (lt_of_cell c0)).trans c0
          have d1 : W1.cell? ⟨b, off + m * 7 + 1, none⟩ = some (.string t) := (ba.cell (lt_of_cell c1)).trans c1
          have e1 : W1.cell? ⟨wr.heap.size, 1, none⟩ = some (.string t) := by rw [hW1]; simp
          have e2 : W1.cell? ⟨wr.heap.size, 2, none⟩ = some (.int .i64 sn) := by rw [hW1]; simp
          have as1 := as_i_i
          have q1 := beq_key (x := t) (y := t) true (decide_eq_true rfl)
          have HU : Hid (∀ w', Below W1.drew.heap.size W1.drew w' → (w'.cell? ⟨b, off + m * 7 + 1, none⟩ = some (.string t) ∧ w'.cell? ⟨wr.heap.size, 1, none⟩ = some (.string t) ∧ w'.cell? ⟨wr.heap.size, 2, none⟩ = some (.int .i64 sn) ∧ w'.cell? ⟨b, off + m * 7, none⟩ = some (.int .i64 1))) := fun w' hb => ⟨(hb.cell (lt_of_cell (w := W1.drew) d1)).trans d1, (hb.cell (lt_of_cell (w := W1.drew) e1)).trans e1, (hb.cell (lt_of_cell (w := W1.drew) e2)).trans e2, (hb.cell (lt_of_cell (w := W1.drew) d0)).trans d0⟩
          have hz1 : w3.heap.size ≤ W1.drew.heap.size := b1.size
          go_upto_region 16 with fail
          rw [← hW1]
          clear hW1 c0 c1
          go_region_held3 (fun w' => (w'.cell? ⟨b, off + m * 7 + 1, none⟩ = some (.string t) ∧ w'.cell? ⟨wr.heap.size, 1, none⟩ = some (.string t) ∧ w'.cell? ⟨wr.heap.size, 2, none⟩ = some (.int .i64 sn) ∧ w'.cell? ⟨b, off + m * 7, none⟩ = some (.int .i64 1)) ∧ Below w3.heap.size w3 w')
            (exact ⟨by first | (with_reducible assumption) | (simp [*]; done), by first | (with_reducible assumption) | exact b1.drew⟩)
            (first | (go_at_call 147; refine (ilen_any _ _ _ _).mono ?_; rintro r wA ⟨rfl, bA⟩; have jA : Below w3.heap.size w3 wA := (b1.drew).trans (bA.mono hz1); have mmA := HU.out _ bA))
          clear bA d0 d1 e1 e2
          obtain ⟨d1, e1, e2, d0⟩ := mmA
          go_wp2
          go_roundw
          case rel => exact ⟨m + 1, by omega, by go_num, jA⟩
          case measure => simp [RowKit.intOf]; omega
        · have hval : chkP (x, z, u) = 0 := by rcases hgg with ⟨hi, _⟩ | ⟨_, _, h3⟩ | ⟨_, _, h4⟩; exact hi.val; (simp only at h3 h; omega); (simp only at h4 h; omega)
          rw [pieceQ_2 h] at cp
          simp only at cp h
          subst h
          have as1 := as_e_i
          have as2 := as_e_e
          have q1 := beq_key (x := t) (y := t) true (decide_eq_true rfl)
          have hne := neq_pl (x, z, u) (x, z, u) false (by rw [samP_self]; rfl)
          have gd := fun op e e' w => guard_pl op e e' (x, z, u) (x, z, u) w
          clear hgg c5' c6
          rcases good_cases hval with ⟨rfl, rfl, rfl⟩ | ⟨rfl, rfl, rfl⟩ | ⟨rfl, rfl, rfl⟩ | ⟨rfl, rfl⟩ | ⟨rfl, rfl, _⟩
          · have hvv : valP (0, 0, ⟨#[]⟩) = .iface 119 (.agg #[]) := by rfl
            rw [hvv] at cp
            clear hvv hval
            obtain ⟨W1, hW1⟩ : ∃ W, W = wr.alloc (.cells #[.slice ps ls cs, .string t, .iface 119 (.agg #[])] 93) := ⟨_, rfl⟩
            have b1 : Below w3.heap.size w3 W1 := by rw [hW1]; exact hbw.alloc hbw.size _
            have ba : Below wr.heap.size wr W1 := by rw [hW1]; exact (Below.refl _ _).alloc (Nat.le_refl _) _
            have d0 : W1.cell? ⟨b, off + m * 7, none⟩ = some (.int .i64 2) := (ba.cell (lt_of_cell c0)).trans c0
            have d1 : W1.cell? ⟨b, off + m * 7 + 1, none⟩ = some (.string t) := (ba.cell (lt_of_cell c1)).trans c1
            have d2 : W1.cell? ⟨b, off + m * 7 + 2, none⟩ = some (.int .i64 0) := (ba.cell (lt_of_cell c2)).trans c2
            have d3 : W1.cell? ⟨b, off + m * 7 + 3, none⟩ = some (.int .i64 0) := (ba.cell (lt_of_cell c3)).trans c3
            have d4 : W1.cell? ⟨b, off + m * 7 + 4, none⟩ = some (.string ⟨#[]⟩) := (ba.cell (lt_of_cell c4)).trans c4
            have e1 : W1.cell? ⟨wr.heap.size, 1, none⟩ = some (.string t) := by rw [hW1]; simp
            have e2 : W1.cell? ⟨wr.heap.size, 2, none⟩ = some (.iface 119 (.agg #[])) := by rw [hW1]; simp
            have HU : Hid (∀ w', Below W1.drew.heap.size W1.drew w' → ((w'.cell? ⟨b, off + m * 7 + 1, none⟩ = some (.string t) ∧ w'.cell? ⟨wr.heap.size, 1, none⟩ = some (.string t) ∧ w'.cell? ⟨wr.heap.size, 2, none⟩ = some (.iface 119 (.agg #[]))) ∧ w'.cell? ⟨b, off + m * 7, none⟩ = some (.int .i64 2) ∧ w'.cell? ⟨b, off + m * 7 + 2, none⟩ = some (.int .i64 0) ∧ w'.cell? ⟨b, off + m * 7 + 3, none⟩ = some (.int .i64 0) ∧ w'.cell? ⟨b, off + m * 7 + 4, none⟩ = some (.string ⟨#[]⟩))) := fun w' hb => ⟨⟨(hb.cell (lt_of_cell (w := W1.drew) d1)).trans d1, (hb.cell (lt_of_cell (w := W1.drew) e1)).trans e1, (hb.cell (lt_of_cell (w := W1.drew) e2)).trans e2⟩, (hb.cell (lt_of_cell (w := W1.drew) d0)).trans d0, (hb.cell (lt_of_cell (w := W1.drew) d2)).trans d2, (hb.cell (lt_of_cell (w := W1.drew) d3)).trans d3, (hb.cell (lt_of_cell (w := W1.drew) d4)).trans d4⟩
            have hz1 : w3.heap.size ≤ W1.drew.heap.size := b1.size
            go_upto_region 21 with fail
            rw [← hW1]
            clear hW1 c0 c1 c2 c3 c4
            go_region_held3 (fun w' => ((w'.cell? ⟨b, off + m * 7 + 1, none⟩ = some (.string t) ∧ w'.cell? ⟨wr.heap.size, 1, none⟩ = some (.string t) ∧ w'.cell? ⟨wr.heap.size, 2, none⟩ = some (.iface 119 (.agg #[]))) ∧ w'.cell? ⟨b, off + m * 7, none⟩ = some (.int .i64 2) ∧ w'.cell? ⟨b, off + m * 7 + 2, none⟩ = some (.int .i64 0) ∧ w'.cell? ⟨b, off + m * 7 + 3, none⟩ = some (.int .i64 0) ∧ w'.cell? ⟨b, off + m * 7 + 4, none⟩ = some (.string ⟨#[]⟩)) ∧ Below w3.heap.size w3 w')
              (exact ⟨by first | (with_reducible assumption) | (simp [*]; done), by first | (with_reducible assumption) | exact b1.drew⟩)
              (first | (go_at_call 162; refine (plain_n _).mono ?_; rintro r wA ⟨rfl, bA⟩; have jA : Below w3.heap.size w3 wA := (b1.drew).trans (bA.mono hz1); have mmA := HU.out _ bA))
            clear bA d0 d1 d2 d3 d4 e1 e2
            obtain ⟨⟨d1, e1, e2⟩, d0, d2, d3, d4⟩ := mmA
            go_wp2
            go_roundw
            case rel => exact ⟨m + 1, by omega, by go_num, jA⟩
            case measure => simp [RowKit.intOf]; omega
          · have hvv : valP (1, 0, ⟨#[]⟩) = .iface 115 (.bool false) := by rfl
            rw [hvv] at cp
            clear hvv hval
            obtain ⟨W1, hW1⟩ : ∃ W, W = wr.alloc (.cells #[.slice ps ls cs, .string t, .iface 115 (.bool false)] 93) := ⟨_, rfl⟩
            have b1 : Below w3.heap.size w3 W1 := by rw [hW1]; exact hbw.alloc hbw.size _
            have ba : Below wr.heap.size wr W1 := by rw [hW1]; exact (Below.refl _ _).alloc (Nat.le_refl _) _
            have d0 : W1.cell? ⟨b, off + m * 7, none⟩ = some (.int .i64 2) := (ba.cell (lt_of_cell c0)).trans c0
            have d1 : W1.cell? ⟨b, off + m * 7 + 1, none⟩ = some (.string t) := (ba.cell (lt_of_cell c1)).trans c1
            have d2 : W1.cell? ⟨b, off + m * 7 + 2, none⟩ = some (.int .i64 1) := (ba.cell (lt_of_cell c2)).trans c2
            have d3 : W1.cell? ⟨b, off + m * 7 + 3, none⟩ = some (.int .i64 0) := (ba.cell (lt_of_cell c3)).trans c3
            have d4 : W1.cell? ⟨b, off + m * 7 + 4, none⟩ = some (.string ⟨#[]⟩) := (ba.cell (lt_of_cell c4)).trans c4
            have e1 : W1.cell? ⟨wr.heap.size, 1, none⟩ = some (.string t) := by rw [hW1]; simp
            have e2 : W1.cell? ⟨wr.heap.size, 2, none⟩ = some (.iface 115 (.bool false)) := by rw [hW1]; simp
            have HU : Hid (∀ w', Below W1.drew.heap.size W1.drew w' → ((w'.cell? ⟨b, off + m * 7 + 1, none⟩ = some (.string t) ∧ w'.cell? ⟨wr.heap.size, 1, none⟩ = some (.string t) ∧ w'.cell? ⟨wr.heap.size, 2, none⟩ = some (.iface 115 (.bool false))) ∧ w'.cell? ⟨b, off + m * 7, none⟩ = some (.int .i64 2) ∧ w'.cell? ⟨b, off + m * 7 + 2, none⟩ = some (.int .i64 1) ∧ w'.cell? ⟨b, off + m * 7 + 3, none⟩ = some (.int .i64 0) ∧ w'.cell? ⟨b, off + m * 7 + 4, none⟩ = some (.string ⟨#[]⟩))) := fun w' hb => ⟨⟨(hb.cell (lt_of_cell (w := W1.drew) d1)).trans d1, (hb.cell (lt_of_cell (w := W1.drew) e1)).trans e1, (hb.cell (lt_of_cell (w := W1.drew) e2)).trans e2⟩, (hb.cell (lt_of_cell (w := W1.drew) d0)).trans d0, (hb.cell (lt_of_cell (w := W1.drew) d2)).trans d2, (hb.cell (lt_of_cell (w := W1.drew) d3)).trans d3, (hb.cell (lt_of_cell (w := W1.drew) d4)).trans d4⟩
            have hz1 : w3.heap.size ≤ W1.drew.heap.size := b1.size
            go_upto_region 21 with fail
            rw [← hW1]
            clear hW1 c0 c1 c2 c3 c4
            go_region_held3 (fun w' => ((w'.cell? ⟨b, off + m * 7 + 1, none⟩ = some (.string t) ∧ w'.cell? ⟨wr.heap.size, 1, none⟩ = some (.string t) ∧ w'.cell? ⟨wr.heap.size, 2, none⟩ = some (.iface 115 (.bool false))) ∧ w'.cell? ⟨b, off + m * 7, none⟩ = some (.int .i64 2) ∧ w'.cell? ⟨b, off + m * 7 + 2, none⟩ = some (.int .i64 1) ∧ w'.cell? ⟨b, off + m * 7 + 3, none⟩ = some (.int .i64 0) ∧ w'.cell? ⟨b, off + m * 7 + 4, none⟩ = some (.string ⟨#[]⟩)) ∧ Below w3.heap.size w3 w')
              (exact ⟨by first | (with_reducible assumption) | (simp [*]; done), by first | (with_reducible assumption) | exact b1.drew⟩)
              (first | (go_at_call 156; refine (plain_f false _).mono ?_; rintro r wA ⟨rfl, bA⟩; have jA : Below w3.heap.size w3 wA := (b1.drew).trans (bA.mono hz1); have mmA := HU.out _ bA))
            clear bA d0 d1 d2 d3 d4 e1 e2
            obtain ⟨⟨d1, e1, e2⟩, d0, d2, d3, d4⟩ := mmA
            go_wp2
            go_roundw
            case rel => exact ⟨m + 1, by omega, by go_num, jA⟩
            case measure => simp [RowKit.intOf]; omega
          · have hvv : valP (1, 1, ⟨#[]⟩) = .iface 115 (.bool true) := by rfl
            rw [hvv] at cp
            clear hvv hval
            obtain ⟨W1, hW1⟩ : ∃ W, W = wr.alloc (.cells #[.slice ps ls cs, .string t, .iface 115 (.bool true)] 93) := ⟨_, rfl⟩
            have b1 : Below w3.heap.size w3 W1 := by rw [hW1]; exact hbw.alloc hbw.size _
            have ba : Below wr.heap.size wr W1 := by rw [hW1]; exact (Below.refl _ _).alloc (Nat.le_refl _) _
            have d0 : W1.cell? ⟨b, off + m * 7, none⟩ = some (.int .i64 2) := (ba.cell (lt_of_cell c0)).trans c0
            have d1 : W1.cell? ⟨b, off + m * 7 + 1, none⟩ = some (.string t) := (ba.cell (lt_of_cell c1)).trans c1
            have d2 : W1.cell? ⟨b, off + m * 7 + 2, none⟩ = some (.int .i64 1) := (ba.cell (lt_of_cell c2)).trans c2
            have d3 : W1.cell? ⟨b, off + m * 7 + 3, none⟩ = some (.int .i64 1) := (ba.cell (lt_of_cell c3)).trans c3
            have d4 : W1.cell? ⟨b, off + m * 7 + 4, none⟩ = some (.string ⟨#[]⟩) := (ba.cell (lt_of_cell c4)).trans c4
            have e1 : W1.cell? ⟨wr.heap.size, 1, none⟩ = some (.string t) := by rw [hW1]; simp
            have e2 : W1.cell? ⟨wr.heap.size, 2, none⟩ = some (.iface 115 (.bool true)) := by rw [hW1]; simp
            have HU : Hid (∀ w', Below W1.drew.heap.size W1.drew w' → ((w'.cell? ⟨b, off + m * 7 + 1, none⟩ = some (.string t) ∧ w'.cell? ⟨wr.heap.size, 1, none⟩ = some (.string t) ∧ w'.cell? ⟨wr.heap.size, 2, none⟩ = some (.iface 115 (.bool true))) ∧ w'.cell? ⟨b, off + m * 7, none⟩ = some (.int .i64 2) ∧ w'.cell? ⟨b, off + m * 7 + 2, none⟩ = some (.int .i64 1) ∧ w'.cell? ⟨b, off + m * 7 + 3, none⟩ = some (.int .i64 1) ∧ w'.cell? ⟨b, off + m * 7 + 4, none⟩ = some (.string ⟨#[]⟩))) := fun w' hb => ⟨⟨(hb.cell (lt_of_cell (w := W1.drew) d1)).trans d1, (hb.cell (lt_of_cell (w := W1.drew) e1)).trans e1, (hb.cell (lt_of_cell (w := W1.drew) e2)).trans e2⟩, (hb.cell (lt_of_cell (w := W1.drew) d0)).trans d0, (hb.cell (lt_of_cell (w := W1.drew) d2)).trans d2, (hb.cell (lt_of_cell (w := W1.drew) d3)).trans d3, (hb.cell (lt_of_cell (w := W1.drew) d4)).trans d4⟩
            have hz1 : w3.heap.size ≤ W1.drew.heap.size := b1.size
            go_upto_region 21 with fail
            rw [← hW1]
            clear hW1 c0 c1 c2 c3 c4
            go_region_held3 (fun w' => ((w'.cell? ⟨b, off + m * 7 + 1, none⟩ = some (.string t) ∧ w'.cell? ⟨wr.heap.size, 1, none⟩ = some (.string t) ∧ w'.cell? ⟨wr.heap.size, 2, none⟩ = some (.iface 115 (.bool true))) ∧ w'.cell? ⟨b, off + m * 7, none⟩ = some (.int .i64 2) ∧ w'.cell? ⟨b, off + m * 7 + 2, none⟩ = some (.int .i64 1) ∧ w'.cell? ⟨b, off + m * 7 + 3, none⟩ = some (.int .i64 1) ∧ w'.cell? ⟨b, off + m * 7 + 4, none⟩ = some (.string ⟨#[]⟩)) ∧ Below w3.heap.size w3 w')
              (exact ⟨by first | (with_reducible assumption) | (simp [*]; done), by first | (with_reducible assumption) | exact b1.drew⟩)
              (first | (go_at_call 156; refine (plain_f true _).mono ?_; rintro r wA ⟨rfl, bA⟩; have jA : Below w3.heap.size w3 wA := (b1.drew).trans (bA.mono hz1); have mmA := HU.out _ bA))
            clear bA d0 d1 d2 d3 d4 e1 e2
            obtain ⟨⟨d1, e1, e2⟩, d0, d2, d3, d4⟩ := mmA
            go_wp2
            go_roundw
            case rel => exact ⟨m + 1, by omega, by go_num, jA⟩
            case measure => simp [RowKit.intOf]; omega
          · have hvv : valP (2, z, ⟨#[]⟩) = .iface 116 (.int .i64 z) := by rfl
            rw [hvv] at cp
            clear hvv hval
            obtain ⟨W1, hW1⟩ : ∃ W, W = wr.alloc (.cells #[.slice ps ls cs, .string t, .iface 116 (.int .i64 z)] 93) := ⟨_, rfl⟩
            have b1 : Below w3.heap.size w3 W1 := by rw [hW1]; exact hbw.alloc hbw.size _
            have ba : Below wr.heap.size wr W1 := by rw [hW1]; exact (Below.refl _ _).alloc (Nat.le_refl _) _
            have d0 : W1.cell? ⟨b, off + m * 7, none⟩ = some (.int .i64 2) := (ba.cell (lt_of_cell c0)).trans c0
            have d1 : W1.cell? ⟨b, off + m * 7 + 1, none⟩ = some (.string t) := (ba.cell (lt_of_cell c1)).trans c1
            have d2 : W1.cell? ⟨b, off + m * 7 + 2, none⟩ = some (.int .i64 2) := (ba.cell (lt_of_cell c2)).trans c2
            have d3 : W1.cell? ⟨b, off + m * 7 + 3, none⟩ = some (.int .i64 z) := (ba.cell (lt_of_cell c3)).trans c3
            have d4 : W1.cell? ⟨b, off + m * 7 + 4, none⟩ = some (.string ⟨#[]⟩) := (ba.cell (lt_of_cell c4)).trans c4
            have e1 : W1.cell? ⟨wr.heap.size, 1, none⟩ = some (.string t) := by rw [hW1]; simp
            have e2 : W1.cell? ⟨wr.heap.size, 2, none⟩ = some (.iface 116 (.int .i64 z)) := by rw [hW1]; simp
            have HU : Hid (∀ w', Below W1.drew.heap.size W1.drew w' → ((w'.cell? ⟨b, off + m * 7 + 1, none⟩ = some (.string t) ∧ w'.cell? ⟨wr.heap.size, 1, none⟩ = some (.string t) ∧ w'.cell? ⟨wr.heap.size, 2, none⟩ = some (.iface 116 (.int .i64 z))) ∧ w'.cell? ⟨b, off + m * 7, none⟩ = some (.int .i64 2) ∧ w'.cell? ⟨b, off + m * 7 + 2, none⟩ = some (.int .i64 2) ∧ w'.cell? ⟨b, off + m * 7 + 3, none⟩ = some (.int .i64 z) ∧ w'.cell? ⟨b, off + m * 7 + 4, none⟩ = some (.string ⟨#[]⟩))) := fun w' hb => ⟨⟨(hb.cell (lt_of_cell (w := W1.drew) d1)).trans d1, (hb.cell (lt_of_cell (w := W1.drew) e1)).trans e1, (hb.cell (lt_of_cell (w := W1.drew) e2)).trans e2⟩, (hb.cell (lt_of_cell (w := W1.drew) d0)).trans d0, (hb.cell (lt_of_cell (w := W1.drew) d2)).trans d2, (hb.cell (lt_of_cell (w := W1.drew) d3)).trans d3, (hb.cell (lt_of_cell (w := W1.drew) d4)).trans d4⟩
            have hz1 : w3.heap.size ≤ W1.drew.heap.size := b1.size
            go_upto_region 21 with fail
            rw [← hW1]
            clear hW1 c0 c1 c2 c3 c4
            go_region_held3 (fun w' => ((w'.cell? ⟨b, off + m * 7 + 1, none⟩ = some (.string t) ∧ w'.cell? ⟨wr.heap.size, 1, none⟩ = some (.string t) ∧ w'.cell? ⟨wr.heap.size, 2, none⟩ = some (.iface 116 (.int .i64 z))) ∧ w'.cell? ⟨b, off + m * 7, none⟩ = some (.int .i64 2) ∧ w'.cell? ⟨b, off + m * 7 + 2, none⟩ = some (.int .i64 2) ∧ w'.cell? ⟨b, off + m * 7 + 3, none⟩ = some (.int .i64 z) ∧ w'.cell? ⟨b, off + m * 7 + 4, none⟩ = some (.string ⟨#[]⟩)) ∧ Below w3.heap.size w3 w')
              (exact ⟨by first | (with_reducible assumption) | (simp [*]; done), by first | (with_reducible assumption) | exact b1.drew⟩)
              (first | (go_at_call 158; refine (plain_d z _).mono ?_; rintro r wA ⟨rfl, bA⟩; have jA : Below w3.heap.size w3 wA := (b1.drew).trans (bA.mono hz1); have mmA := HU.out _ bA))
            clear bA d0 d1 d2 d3 d4 e1 e2
            obtain ⟨⟨d1, e1, e2⟩, d0, d2, d3, d4⟩ := mmA
            go_wp2
            go_roundw
            case rel => exact ⟨m + 1, by omega, by go_num, jA⟩
            case measure => simp [RowKit.intOf]; omega
          · have hvv : valP (3, 0, u) = .iface 117 (.string u) := by rfl
            rw [hvv] at cp
            clear hvv hval
            obtain ⟨W1, hW1⟩ : ∃ W, W = wr.alloc (.cells #[.slice ps ls cs, .string t, .iface 117 (.string u)] 93) := ⟨_, rfl⟩
            have b1 : Below w3.heap.size w3 W1 := by rw [hW1]; exact hbw.alloc hbw.size _
            have ba : Below wr.heap.size wr W1 := by rw [hW1]; exact (Below.refl _ _).alloc (Nat.le_refl _) _
            have d0 : W1.cell? ⟨b, off + m * 7, none⟩ = some (.int .i64 2) := (ba.cell (lt_of_cell c0)).trans c0
            have d1 : W1.cell? ⟨b, off + m * 7 + 1, none⟩ = some (.string t) := (ba.cell (lt_of_cell c1)).trans c1
            have d2 : W1.cell? ⟨b, off + m * 7 + 2, none⟩ = some (.int .i64 3) := (ba.cell (lt_of_cell c2)).trans c2
            have d3 : W1.cell? ⟨b, off + m * 7 + 3, none⟩ = some (.int .i64 0) := (ba.cell (lt_of_cell c3)).trans c3
            have d4 : W1.cell? ⟨b, off + m * 7 + 4, none⟩ = some (.string u) := (ba.cell (lt_of_cell c4)).trans c4
            have e1 : W1.cell? ⟨wr.heap.size, 1, none⟩ = some (.string t) := by rw [hW1]; simp
            have e2 : W1.cell? ⟨wr.heap.size, 2, none⟩ = some (.iface 117 (.string u)) := by rw [hW1]; simp
            have HU : Hid (∀ w', Below W1.drew.heap.size W1.drew w' → ((w'.cell? ⟨b, off + m * 7 + 1, none⟩ = some (.string t) ∧ w'.cell? ⟨wr.heap.size, 1, none⟩ = some (.string t) ∧ w'.cell? ⟨wr.heap.size, 2, none⟩ = some (.iface 117 (.string u))) ∧ w'.cell? ⟨b, off + m * 7, none⟩ = some (.int .i64 2) ∧ w'.cell? ⟨b, off + m * 7 + 2, none⟩ = some (.int .i64 3) ∧ w'.cell? ⟨b, off + m * 7 + 3, none⟩ = some (.int .i64 0) ∧ w'.cell? ⟨b, off + m * 7 + 4, none⟩ = some (.string u))) := fun w' hb => ⟨⟨(hb.cell (lt_of_cell (w := W1.drew) d1)).trans d1, (hb.cell (lt_of_cell (w := W1.drew) e1)).trans e1, (hb.cell (lt_of_cell (w := W1.drew) e2)).trans e2⟩, (hb.cell (lt_of_cell (w := W1.drew) d0)).trans d0, (hb.cell (lt_of_cell (w := W1.drew) d2)).trans d2, (hb.cell (lt_of_cell (w := W1.drew) d3)).trans d3, (hb.cell (lt_of_cell (w := W1.drew) d4)).trans d4⟩
            have hz1 : w3.heap.size ≤ W1.drew.heap.size := b1.size
            go_upto_region 21 with fail
            rw [← hW1]
            clear hW1 c0 c1 c2 c3 c4
            go_region_held3 (fun w' => ((w'.cell? ⟨b, off + m * 7 + 1, none⟩ = some (.string t) ∧ w'.cell? ⟨wr.heap.size, 1, none⟩ = some (.string t) ∧ w'.cell? ⟨wr.heap.size, 2, none⟩ = some (.iface 117 (.string u))) ∧ w'.cell? ⟨b, off + m * 7, none⟩ = some (.int .i64 2) ∧ w'.cell? ⟨b, off + m * 7 + 2, none⟩ = some (.int .i64 3) ∧ w'.cell? ⟨b, off + m * 7 + 3, none⟩ = some (.int .i64 0) ∧ w'.cell? ⟨b, off + m * 7 + 4, none⟩ = some (.string u)) ∧ Below w3.heap.size w3 w')
              (exact ⟨by first | (with_reducible assumption) | (simp [*]; done), by first | (with_reducible assumption) | exact b1.drew⟩)
              (first | (go_at_call 160; refine (plain_t u _).mono ?_; rintro r wA ⟨rfl, bA⟩; have jA : Below w3.heap.size w3 wA := (b1.drew).trans (bA.mono hz1); have mmA := HU.out _ bA))
            clear bA d0 d1 d2 d3 d4 e1 e2
            obtain ⟨⟨d1, e1, e2⟩, d0, d2, d3, d4⟩ := mmA
            go_wp2
            go_roundw
            case rel => exact ⟨m + 1, by omega, by go_num, jA⟩
            case measure => simp [RowKit.intOf]; omega
        · rw [pieceQ_3 h] at cp
          simp only at cp h
          subst h
          clear hgg c1 c2 c3 c4 c6
          obtain ⟨W1, hW1⟩ : ∃ W, W = wr.alloc (.cells #[.slice ps ls cs, .int .i64 cc1] 96) := ⟨_, rfl⟩
          have b1 : Below w3.heap.size w3 W1 := by rw [hW1]; exact hbw.alloc hbw.size _
          have ba : Below wr.heap.size wr W1 := by rw [hW1]; exact (Below.refl _ _).alloc (Nat.le_refl _) _
          have d0 : W1.cell? ⟨b, off + m * 7, none⟩ = some (.int .i64 3) := (ba.cell (lt_of_cell c0)).trans c0
          have d5 : W1.cell? ⟨b, off + m * 7 + 5, none⟩ = some (.int .i64 cc1) := (ba.cell (lt_of_cell c5')).trans c5'
          have e1 : W1.cell? ⟨wr.heap.size, 1, none⟩ = some (.int .i64 cc1) := by rw [hW1]; simp
          have a0 := as_r_i
          have a1 := as_r_e
          have a2 := as_r_r
          go_upto_region 26 with fail
          rw [← hW1]
          clear hW1 c0 c5'
          go_quiet (fail)
          go_wp2
          go_roundw
          case rel => exact ⟨m + 1, by omega, by go_num, by first | exact b1 | exact below_drewN b1 _⟩
          case measure => simp [RowKit.intOf]; omega
        · rw [pieceQ_4 h] at cp
          simp only at cp h
          subst h
          clear hgg c1 c2 c3 c4 c6
          obtain ⟨W1, hW1⟩ : ∃ W, W = wr.alloc (.cells #[.int .i64 cc1] 98) := ⟨_, rfl⟩
          have b1 : Below w3.heap.size w3 W1 := by rw [hW1]; exact hbw.alloc hbw.size _
          have ba : Below wr.heap.size wr W1 := by rw [hW1]; exact (Below.refl _ _).alloc (Nat.le_refl _) _
          have d0 : W1.cell? ⟨b, off + m * 7, none⟩ = some (.int .i64 4) := (ba.cell (lt_of_cell c0)).trans c0
          have d5 : W1.cell? ⟨b, off + m * 7 + 5, none⟩ = some (.int .i64 cc1) := (ba.cell (lt_of_cell c5')).trans c5'
          have e1 : W1.cell? ⟨wr.heap.size, 0, none⟩ = some (.int .i64 cc1) := by rw [hW1]; simp
          have a0 := as_d_i
          have a1 := as_d_e
          have a2 := as_d_r
          have a3 := as_d_d
          go_upto_region 31 with fail
          rw [← hW1]
          clear hW1 c0 c5'
          go_quiet (fail)
          go_wp2
          go_roundw
          case rel => exact ⟨m + 1, by omega, by go_num, by first | exact b1 | exact below_drewN b1 _⟩
          case measure => simp [RowKit.intOf]; omega
      · have hltI : ¬ (m : Int) < n := by omega
        have b9 := HB3.out.trans (hbw.mono HB3.out.size)
        go_wp2
        go_ret
        exact ⟨rfl, b9⟩
end Go.Proofs.YtkgflmbhkbeakaaDoor
