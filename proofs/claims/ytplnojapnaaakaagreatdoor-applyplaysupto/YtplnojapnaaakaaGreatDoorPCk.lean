/- What attrs.Check answers. -/
import Derived.Test.YtplnojapnaaakaaGreatDoorPAl
import Derived.BigRegion
namespace Go.Proofs.YtplnojapnaaakaaGreatDoor
open Go Go.RowKit Go.Lib
set_option linter.unusedVariables false
/-- Is a key above the one ahead of it (if there is one)? -/
def above : Option ByteArray → ByteArray → Bool
  | none, _ => true
  | some p, x => decide (kc p x < 0)
/-- What a list is refused with. -/
def listE (nulls : Bool) : Option ByteArray → List A2 → Nat
  | _, [] => 0
  | pv, q :: r => if pairE q = 0 then (if (!nulls && q.2.1 == 0) = true then 7 else if above pv q.1 = true then listE nulls (some q.1) r else 8) else pairE q
theorem less_kc (x y : ByteArray) : Op.bytesLess x.toList y.toList = decide (kc x y < 0) := by
  rw [toList_data, toList_data]; exact cb_less _ _

theorem leq_run {P : Program} {t : TypeId} (x y : ByteArray) (b : Bool) (h : (!decide (kc y x < 0)) = b) (w : World) : (binOp .leq t (.string x) (.string y)).run P w = .ok (.bool b) w := by
  have e : (Op.bytesLess x.toList y.toList || x.toList == y.toList) = b := by
    rw [less_kc, ← h]
    have hs := kc_swap x y
    by_cases hz : kc x y = 0
    · obtain rfl := kc_zero.1 hz
      simp [kc_self]
    · have hne : ¬ x.toList = y.toList := fun e => hz (kc_zero.2 (ByteArray.ext (Array.ext' (by rw [← toList_data, ← toList_data]; exact e))))
      have hb : (x.toList == y.toList) = false := by simpa using hne
      rw [hb, Bool.or_false]
      rcases kc_range x y with h1 | h1 | h1 <;> rw [h1] at hs ⊢ <;> simp [hs] <;> omega
  rw [← e]
  simp [binOp, Op.stringOp]
set_option maxHeartbeats 2000000 in
set_option maxRecDepth 100000 in
theorem check_gen {I : List Nat} {a : Nat → Addr} (v : Value) (L : List A2) (nulls : Bool) (w : World) (hI : ∀ i ∈ IX, i ∈ I) (hS : Std I a w) (hv : RowA w v L)
    (hs : ∀ q ∈ L, q.1.size ≤ 281474976710656 ∧ q.2.2.2.size ≤ 281474976710656) (hl : L.length ≤ 4611686018427387904) :
    Calls Tryz.prog 156 #[v, .bool nulls] w fun r w' => r = .returned (errOf a (listE nulls none L)) ∧ Below w.heap.size w w' := by
  obtain ⟨n, hn⟩ : ∃ n, L.length = n := ⟨_, rfl⟩
  obtain ⟨p, cap, rfl, hcap, hc⟩ := hv
  rw [hn] at hl hcap ⊢
  have HN : Hid (L.length = n) := hn
  have HC : Hid _ := hc
  have HS : Hid _ := hS
  have HZ : Hid _ := hs
  have HII : Hid _ := hI
  clear hc hS hs hI hn
  go_enter Tryz.func156, Tryz.ntmps156
  go_wp2
  go_loopw [10] (fun i wr => ∃ (k : Nat) (pv : Option ByteArray), k ≤ n ∧ i = .int .i64 k ∧ Below w.heap.size w wr ∧ Hid (listE nulls none L = listE nulls pv (L.drop k) ∧ (k = 0 → pv = none) ∧ ∀ j q, k = j + 1 → L[j]? = some q → pv = some q.1)) (fun i _ => n - (RowKit.intOf i).toNat)
  case atStart => exact ⟨0, none, Nat.zero_le _, rfl, Below.refl _ _, rfl, fun _ => rfl, fun j q h => by omega⟩
  case round =>
    obtain ⟨k, pv, hk, rfl, hbw, H⟩ := hrel
    by_cases hlt : k < n
    · have hltI : (k : Int) < n := by omega
      obtain ⟨q, hq⟩ : ∃ q, L[k]? = some q := ⟨_, List.getElem?_eq_getElem (by rw [HN.out]; exact hlt)⟩
      obtain ⟨b, off, rfl, hp⟩ := HC.out k q hq
      have hpw := hp.below hbw
      obtain ⟨c0, c1, c2, c3⟩ := hpw
      have hzs := HZ.out _ (List.mem_of_getElem? hq)
      have hd : L.drop k = q :: L.drop (k + 1) := by
        rw [List.drop_eq_getElem_cons (by rw [HN.out]; exact hlt)]
        rw [List.getElem?_eq_getElem (by rw [HN.out]; exact hlt)] at hq
        rw [Option.some.inj hq]
      obtain ⟨qk, qx, qn, qt⟩ := q
      simp only at c0 c1 c2 c3 hzs
      have hb1 : Below w.heap.size w (wr.alloc (.cells #[.string qk, .int .i64 qx, .int .i64 qn, .string qt] 154)) := hbw.alloc hbw.size _
      have cP := pair_any (qk, qx, qn, qt) _ HII.out (HS.out.below hb1) hzs.1 hzs.2
      by_cases hE : pairE (qk, qx, qn, qt) = 0
      · rw [hE, errOf_zero] at cP
        have hE1 : listE nulls none L = (if (!nulls && qx == 0) = true then 7 else if above pv qk = true then listE nulls (some qk) (L.drop (k + 1)) else 8) := by
          rw [H.out.1, hd, listE, if_pos hE]
        have HP : Hid ((k = 0 → pv = none) ∧ ∀ j q, k = j + 1 → L[j]? = some q → pv = some q.1) := H.out.2
        have HQ : Hid (L[k]? = some (qk, qx, qn, qt)) := hq
        have bp : ∀ W, Below (wr.alloc (.cells #[.string qk, .int .i64 qx, .int .i64 qn, .string qt] 154)).heap.size (wr.alloc (.cells #[.string qk, .int .i64 qx, .int .i64 qn, .string qt] 154)) W → PairAt W wr.heap.size 0 (qk, qx, qn, qt) := fun W hW => PairAt.below (w := wr.alloc (.cells #[.string qk, .int .i64 qx, .int .i64 qn, .string qt] 154)) ⟨by simp, by simp, by simp, by simp⟩ hW
        have HE1 : Hid _ := hE1
        clear hzs hq hd hE hE1 H hp
        cases nulls with
        | true =>
          go_wp2_with fail
          refine cP.mono ?_; rintro r w3 ⟨rfl, hb3⟩
          obtain ⟨e0, e1, e2, e3⟩ := bp _ hb3
          have hb4 := hb1.trans (hb3.mono hb1.size)
          clear bp hb3 c0 c1 c2 c3
          go_wp2_with fail
          have bq : Below w.heap.size w w3 := hb4
          cases k with
          | zero =>
            have hg0 : decide ((0 : Int) < ((0 : Nat) : Int)) = false := by decide
            go_quiet (fail)
            go_wp2
            go_roundw
            case rel =>
              refine ⟨1, some qk, by omega, by go_num, by first | exact bq | exact below_drewN bq _, ?_, by omega, fun j q h1 h2 => ?_⟩
              · rw [HE1.out, if_neg (by simp), if_pos (by rw [HP.out.1 rfl]; rfl)]
              · obtain rfl : j = 0 := by omega
                rw [HQ.out] at h2
                rw [← Option.some.inj h2]
            case measure => simp [RowKit.intOf]; omega
          | succ j =>
            obtain ⟨q', hq'⟩ : ∃ q', L[j]? = some q' := ⟨_, List.getElem?_eq_getElem (by rw [HN.out]; omega)⟩
            obtain ⟨b', off', hbo, hp'⟩ := HC.out j q' hq'
            simp only [Option.some.injEq, Addr.mk.injEq, and_true] at hbo
            obtain ⟨rfl, rfl⟩ := hbo
            have d0 := (hp'.below bq).c0
            have hpv := HP.out.2 j q' rfl hq'
            have hg0 : (0 : Int) < ((j + 1 : Nat) : Int) := by omega
            have hg1 : (((j + 1 : Nat) : Int) - 1) = (j : Int) := by omega
            have hg2 : (j : Int) < n := by omega
            have hg3 : (0 : Int) ≤ j := by omega
            have hwr : IntKind.i64.wrap (j : Int) = (j : Int) := IntWalk.i64_in _ (by omega)
            obtain ⟨k', p'⟩ := q'
            simp only at d0 hpv
            by_cases hlt2 : kc k' qk < 0
            · have hless := leq_run (P := Tryz.prog) (t := 9) qk k' false (by simpa using hlt2)
              have HR : Hid (listE true none L = listE true (some qk) (L.drop (j + 1 + 1))) := by
                show _ = _
                rw [HE1.out, if_neg (by simp), if_pos (by rw [hpv]; simpa [above] using hlt2)]
              have HP2 : Hid (∀ i q, j + 1 + 1 = i + 1 → L[i]? = some q → some qk = some q.1) := fun i q h1 h2 => by
                obtain rfl : i = j + 1 := by omega
                rw [HQ.out] at h2
                rw [← Option.some.inj h2]
              clear hlt2 hpv hp' hq' HP HE1
              go_quiet (fail)
              go_wp2
              go_roundw
              case rel => exact ⟨j + 1 + 1, some qk, by omega, by go_num, by first | exact bq | exact below_drewN bq _, HR.out, fun h => by omega, HP2.out⟩
              case measure => simp [RowKit.intOf]; omega
            · have hless := leq_run (P := Tryz.prog) (t := 9) qk k' true (by simpa using hlt2)
              have HR : Hid (listE true none L = 8) := by
                show _ = _
                rw [HE1.out, if_neg (by simp), if_neg (by rw [hpv]; simpa [above] using hlt2)]
              have hgE := (HS.out.below bq).er.cell 7 (HII.out 7 (by simp))
              rw [show gE 7 = 9 from rfl] at hgE
              clear hlt2 hpv hp' hq' HP HE1
              go_quiet (fail)
              go_wp2
              go_ret
              rw [HR.out]
              exact ⟨rfl, by first | exact bq | exact below_drewN bq _⟩
        | false =>
          go_wp2_with fail
          refine cP.mono ?_; rintro r w3 ⟨rfl, hb3⟩
          have hb4 := hb1.trans (hb3.mono hb1.size)
          have bp3 := bp _ hb3
          have bp4 := fun W (hW : Below w3.heap.size w3 W) => bp3.below hW
          obtain ⟨e0, e1, e2, e3⟩ := bp3
          have cN := isNull_any (qx, qn, qt) w3
          simp only at cN
          clear bp hb3 c0 c1 c2 c3
          by_cases hx0 : qx = 0
          · have hx : (qx == 0) = true := by simpa using hx0
            rw [hx] at cN
            have HR : Hid (listE false none L = 7) := by
              show _ = _
              rw [HE1.out, if_pos (by rw [hx]; rfl)]
            have hgE := fun W (hW : Below w.heap.size w W) => (HS.out.below hW).er.cell 6 (HII.out 6 (by simp))
            rw [show gE 6 = 8 from rfl] at hgE
            clear hx0 hx HE1 HP HQ
            go_wp2_with (go_at_call 159; refine cN.mono ?_; rintro r w4 ⟨rfl, hb5⟩; have hb6 := hb4.trans (hb5.mono hb4.size); have hgE' := hgE _ hb6)
            go_ret
            rw [HR.out]
            exact ⟨rfl, hb6⟩
          · have hx : (qx == 0) = false := by simpa using hx0
            rw [hx] at cN
            clear hx0
            go_wp2_with (go_at_call 159; refine cN.mono ?_; rintro r w4 ⟨rfl, hb5⟩; have hb6 := hb4.trans (hb5.mono hb4.size); have e0' := (bp4 _ hb5).c0)
            have bq : Below w.heap.size w w4 := hb6
            cases k with
            | zero =>
              have hg0 : decide ((0 : Int) < ((0 : Nat) : Int)) = false := by decide
              go_quiet (fail)
              go_wp2
              go_roundw
              case rel =>
                refine ⟨1, some qk, by omega, by go_num, by first | exact bq | exact below_drewN bq _, ?_, by omega, fun j q h1 h2 => ?_⟩
                · rw [HE1.out, if_neg (by rw [hx]; simp), if_pos (by rw [HP.out.1 rfl]; rfl)]
                · obtain rfl : j = 0 := by omega
                  rw [HQ.out] at h2
                  rw [← Option.some.inj h2]
              case measure => simp [RowKit.intOf]; omega
            | succ j =>
              obtain ⟨q', hq'⟩ : ∃ q', L[j]? = some q' := ⟨_, List.getElem?_eq_getElem (by rw [HN.out]; omega)⟩
              obtain ⟨b', off', hbo, hp'⟩ := HC.out j q' hq'
              simp only [Option.some.injEq, Addr.mk.injEq, and_true] at hbo
              obtain ⟨rfl, rfl⟩ := hbo
              have d0 := (hp'.below bq).c0
              have hpv := HP.out.2 j q' rfl hq'
              have hg0 : (0 : Int) < ((j + 1 : Nat) : Int) := by omega
              have hg1 : (((j + 1 : Nat) : Int) - 1) = (j : Int) := by omega
              have hg2 : (j : Int) < n := by omega
              have hg3 : (0 : Int) ≤ j := by omega
              have hwr : IntKind.i64.wrap (j : Int) = (j : Int) := IntWalk.i64_in _ (by omega)
              obtain ⟨k', p'⟩ := q'
              simp only at d0 hpv
              by_cases hlt2 : kc k' qk < 0
              · have hless := leq_run (P := Tryz.prog) (t := 9) qk k' false (by simpa using hlt2)
                have HR : Hid (listE false none L = listE false (some qk) (L.drop (j + 1 + 1))) := by
                  show _ = _
                  rw [HE1.out, if_neg (by rw [hx]; simp), if_pos (by rw [hpv]; simpa [above] using hlt2)]
                have HP2 : Hid (∀ i q, j + 1 + 1 = i + 1 → L[i]? = some q → some qk = some q.1) := fun i q h1 h2 => by
                  obtain rfl : i = j + 1 := by omega
                  rw [HQ.out] at h2
                  rw [← Option.some.inj h2]
                clear hlt2 hpv hp' hq' HP HE1
                go_quiet (fail)
                go_wp2
                go_roundw
                case rel => exact ⟨j + 1 + 1, some qk, by omega, by go_num, by first | exact bq | exact below_drewN bq _, HR.out, fun h => by omega, HP2.out⟩
                case measure => simp [RowKit.intOf]; omega
              · have hless := leq_run (P := Tryz.prog) (t := 9) qk k' true (by simpa using hlt2)
                have HR : Hid (listE false none L = 8) := by
                  show _ = _
                  rw [HE1.out, if_neg (by rw [hx]; simp), if_neg (by rw [hpv]; simpa [above] using hlt2)]
                have hgE := (HS.out.below bq).er.cell 7 (HII.out 7 (by simp))
                rw [show gE 7 = 9 from rfl] at hgE
                clear hlt2 hpv hp' hq' HP HE1
                go_quiet (fail)
                go_wp2
                go_ret
                rw [HR.out]
                exact ⟨rfl, by first | exact bq | exact below_drewN bq _⟩
      · obtain ⟨e, he⟩ : ∃ e, pairE (qk, qx, qn, qt) = e + 1 := ⟨pairE (qk, qx, qn, qt) - 1, by omega⟩
        have HR : Hid (listE nulls none L = e + 1) := by
          show _ = _
          rw [H.out.1, hd, listE, if_neg hE, he]
        rw [he, errOf_succ] at cP
        clear hzs hq hd hE he H hp
        go_wp2_with fail
        refine cP.mono ?_; rintro r w3 ⟨rfl, hb3⟩
        go_wp2
        go_ret
        rw [HR.out]
        exact ⟨rfl, hb1.trans (hb3.mono hb1.size)⟩
    · have hltI : ¬ (k : Int) < n := by omega
      have HR : Hid (listE nulls none L = 0) := by
        show _ = _
        rw [H.out.1, List.drop_of_length_le (by rw [HN.out]; omega), listE]
      clear H
      go_wp2
      go_ret
      rw [HR.out]
      exact ⟨rfl, hbw⟩
end Go.Proofs.YtplnojapnaaakaaGreatDoor
