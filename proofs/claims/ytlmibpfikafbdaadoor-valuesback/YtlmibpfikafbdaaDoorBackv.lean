/- Of all Plains and texts vellumlaw02.ValuesBack answers true: the walk. -/
import Derived.Test.YtlmibpfikafbdaaDoorTypes
import Derived.Test.YtlmibpfikafbdaaDoorVr
import Derived.Deep.DeepCutAuto
namespace Go.Proofs.YtlmibpfikafbdaaDoor
open Go Go.RowKit Go.Lib
set_option linter.unusedVariables false

theorem nil_nil (W : World) : (binOp .eql 29 .nilIface .nilIface).run Tryd.prog W = .ok (.bool true) W := by kernel_rfl
/-- What the walk needs of the first half. -/
theorem back_first {I : List Nat} {a : Nat → Addr} (k n : Int) (t : ByteArray) (W0 : World) (hI : ∀ i ∈ [0, 3, 4, 9], i ∈ I) (hS : Std I a W0) (hT : Strc W0) (hn : rngB n = true) (hs : t.size ≤ 281474976710656) :
    ∃ (T : ByteArray) (X : Value) (b : Bool), (∀ (i : Nat) W, (eqGuard .eql 29 (.tmp i) (.const .nilIface) X .nilIface).run Tryd.prog W = .ok () W) ∧ (∀ W, (binOp .eql 29 X .nilIface).run Tryd.prog W = .ok (.bool b) W) ∧
      (∀ W, Below W0.heap.size W0 W → Calls Tryd.prog 15 #[pl k n t] W fun r w' => r = .returned (.tuple #[.string T, X]) ∧ Below W0.heap.size W0 w') ∧
      (∀ W, Below W0.heap.size W0 W → Calls Tryd.prog 13 #[pl k n t] W fun r w' => r = .returned X ∧ Below W0.heap.size W0 w') ∧
      (b = true → X = .nilIface ∧ chk k n t = 0 ∧ (∀ W, Below W0.heap.size W0 W → Calls Tryd.prog 20 #[.string T] W fun r w' => r = .returned (.tuple #[valOf k n t, .nilIface]) ∧ Below W0.heap.size W0 w')) := by
  have hI' : ∀ i ∈ [0, 4, 9], i ∈ I := fun i hi => hI i (by simp at hi ⊢; omega)
  have hn' := rngB_iff.1 hn
  rcases Nat.eq_zero_or_pos (chk k n t) with h | h
  · refine ⟨txtOf k n t, .nilIface, true, fun i W => by kernel_rfl, fun W => ?_, fun W hW => ?_, fun W hW => ?_, fun _ => ⟨rfl, h, fun W hW => ?_⟩⟩
    · exact nil_nil W
    · exact from_below hW (text_ok k n t W hI' (hS.below hW) (hT.below hW) hs hn'.1 hn'.2 h)
    · have := from_below hW (check_any' k n t W hI' (hS.below hW) hs)
      rwa [h] at this
    · have := from_below hW (parse_any (txtOf k n t) W hI (hS.below hW) (hT.below hW) (by have := txtOf_size h hn; omega))
      rw [prs_txt h hn] at this
      exact this
  · obtain ⟨e, he⟩ : ∃ e, chk k n t = e + 1 := ⟨chk k n t - 1, by omega⟩
    refine ⟨⟨#[]⟩, errV a e, false, fun i W => by kernel_rfl, fun W => eql_nil a e W, fun W hW => ?_, fun W hW => ?_, fun h' => by cases h'⟩
    · exact from_below hW (text_no k n t W hI' (hS.below hW) hs e he)
    · have := from_below hW (check_any' k n t W hI' (hS.below hW) hs)
      rwa [he] at this

set_option maxHeartbeats 2000000 in
set_option maxRecDepth 100000 in
theorem back_walk {I : List Nat} {a : Nat → Addr} (k n : Int) (t s : ByteArray) (w : World) (hI : ∀ i ∈ [0, 3, 4, 9], i ∈ I) (hS : Std I a w) (hT : Strc w) (hn : rngB n = true) (hs : t.size ≤ 281474976710656) (hs2 : s.size ≤ 281474976710656) :
    Calls Tryd.prog 8 #[pl k n t, .string s] w fun r w' => r = .returned (.bool true) ∧ Below w.heap.size w w' := by
  obtain ⟨W0, hW0, hB, b0⟩ := box_new w k n t
  have hI' : ∀ i ∈ [0, 4, 9], i ∈ I := fun i hi => hI i (by simp at hi ⊢; omega)
  have hS0 := hS.below b0
  have hT0 := hT.below b0
  obtain ⟨T, X, b, hG, hX, cT, cC, hb⟩ := back_first k n t W0 hI hS0 hT0 hn hs
  have cF := fixed_any W0 hI hS0 hT0
  have cP := fun W (hW : Below W0.heap.size W0 W) => from_below hW (parse_any s W hI (hS0.below hW) (hT0.below hW) hs2)
  have cT2 := fun (k2 n2 : Int) (t2 : ByteArray) (h : prs s = (0, k2, n2, t2)) W (hW : Below W0.heap.size W0 W) =>
    from_below hW (text_ok k2 n2 t2 W hI' (hS0.below hW) (hT0.below hW) (by have := (prs_ok h).2.2.2; omega) (rngB_iff.1 (prs_ok h).2.2.1).1 (rngB_iff.1 (prs_ok h).2.2.1).2 (prs_ok h).1)
  have cC2 := fun (k2 n2 : Int) (t2 : ByteArray) (h : prs s = (0, k2, n2, t2)) W (hW : Below W0.heap.size W0 W) =>
    from_below hW (check_any' k2 n2 t2 W hI' (hS0.below hW) (by have := (prs_ok h).2.2.2; omega))
  have hx := fun W (hW : Below W0.heap.size W0 W) => hB.below hW
  have HP : Hid (∀ W, Below W0.heap.size W0 W → Calls Tryd.prog 20 #[.string s] W fun r w' => r = .returned (.tuple #[resV (prs s), errOf a (prs s).1]) ∧ Below W0.heap.size W0 w') := cP
  have HT2 : Hid _ := cT2
  have HC2 : Hid _ := cC2
  have HB : Hid _ := hb
  clear hS hT hI hI' hB hS0 hT0 cP cT2 cC2 hb
  go_enter Tryd.func8, Tryd.ntmps8
  go_wp2_with fail
  rw [← hW0]
  clear hW0
  refine cF.mono ?_; rintro r w1 ⟨rfl, b1⟩
  obtain ⟨k0, k1, k2⟩ := hx _ b1
  go_wp2_with (go_at_call 15; refine (cT _ b1).mono ?_; rintro r w2 ⟨rfl, b2⟩; obtain ⟨m0, m1, m2⟩ := hx _ b2)
  clear k0 k1 k2 b1 cF cT
  go_region_held3 (fun w' => (w'.cell? ⟨w.heap.size, 0, none⟩ = some (.int .i64 k) ∧ w'.cell? ⟨w.heap.size, 1, none⟩ = some (.int .i64 n) ∧ w'.cell? ⟨w.heap.size, 2, none⟩ = some (.string t)) ∧ Below W0.heap.size W0 w')
    (exact ⟨by first | (with_reducible assumption) | (simp [*]; done), by first | (with_reducible assumption) | exact b2.drew⟩)
    (first
      | (go_at_call 13; refine (cC _ ?_).mono ?_; (· first | assumption | (apply And.right; assumption)); rintro r w3 ⟨rfl, b3⟩; obtain ⟨m0, m1, m2⟩ := hx _ b3; have mm := And.intro m0 (And.intro m1 m2)))
  clear b2
  go_upto_if 24 with fail
  go_cut [0, 6] (fun _ _ wc => Below W0.heap.size W0 wc)
  case first =>
    have hb := HB.out
    clear HP HT2 HC2 HB
    cases b
    · go_wp2
      go_meet
      case rel => assumption
    · obtain ⟨hX0, hc, hP⟩ := hb rfl
      clear hb
      rw [hX0] at *
      obtain ⟨V, hV⟩ : ∃ V, valOf k n t = V := ⟨_, rfl⟩
      rw [hV] at hP
      rcases good_cases hc with ⟨rfl, rfl, rfl⟩ | ⟨rfl, rfl, rfl⟩ | ⟨rfl, rfl, rfl⟩ | ⟨rfl, rfl⟩ | ⟨rfl, rfl, _⟩
      · simp [valOf] at hV; subst hV; clear hc cC hG hX hX0
        go_wp2_with (go_at_call 20; refine (hP _ b3).mono ?_; rintro r w4 ⟨rfl, b4⟩; obtain ⟨m0, m1, m2⟩ := hx _ b4)
        clear hP
        go_region_held3 (fun w' => (w'.cell? ⟨w.heap.size, 0, none⟩ = some (.int .i64 0) ∧ w'.cell? ⟨w.heap.size, 1, none⟩ = some (.int .i64 0) ∧ w'.cell? ⟨w.heap.size, 2, none⟩ = some (.string ⟨#[]⟩)) ∧ Below W0.heap.size W0 w')
          (exact ⟨by first | (with_reducible assumption) | (simp [*]; done), by first | (with_reducible assumption) | exact b4.drew⟩)
          (first
            | (go_at_call 104; refine (from_below (w := W0) ?_ (plain_n _)).mono ?_; (· first | assumption | (apply And.right; assumption)); rintro r w5 ⟨rfl, b5⟩; obtain ⟨m0, m1, m2⟩ := hx _ b5; have mm := And.intro m0 (And.intro m1 m2))
            | (go_at_call 103; refine (from_below (w := W0) ?_ (kind_n _)).mono ?_; (· first | assumption | (apply And.right; assumption)); rintro r w5 ⟨rfl, b5⟩; obtain ⟨m0, m1, m2⟩ := hx _ b5; have mm := And.intro m0 (And.intro m1 m2)))
        go_wp2
        go_meet
        case rel => first | assumption | (apply And.right; assumption)
      · simp [valOf] at hV; subst hV; clear hc cC hG hX hX0
        go_wp2_with (go_at_call 20; refine (hP _ b3).mono ?_; rintro r w4 ⟨rfl, b4⟩; obtain ⟨m0, m1, m2⟩ := hx _ b4)
        clear hP
        go_region_held3 (fun w' => (w'.cell? ⟨w.heap.size, 0, none⟩ = some (.int .i64 1) ∧ w'.cell? ⟨w.heap.size, 1, none⟩ = some (.int .i64 0) ∧ w'.cell? ⟨w.heap.size, 2, none⟩ = some (.string ⟨#[]⟩)) ∧ Below W0.heap.size W0 w')
          (exact ⟨by first | (with_reducible assumption) | (simp [*]; done), by first | (with_reducible assumption) | exact b4.drew⟩)
          (first
            | (go_at_call 106; refine (from_below (w := W0) ?_ (plain_f _ _)).mono ?_; (· first | assumption | (apply And.right; assumption)); rintro r w5 ⟨rfl, b5⟩; obtain ⟨m0, m1, m2⟩ := hx _ b5; have mm := And.intro m0 (And.intro m1 m2))
            | (go_at_call 105; refine (from_below (w := W0) ?_ (kind_f _ _)).mono ?_; (· first | assumption | (apply And.right; assumption)); rintro r w5 ⟨rfl, b5⟩; obtain ⟨m0, m1, m2⟩ := hx _ b5; have mm := And.intro m0 (And.intro m1 m2)))
        go_wp2
        go_meet
        case rel => first | assumption | (apply And.right; assumption)
      · simp [valOf] at hV; subst hV; clear hc cC hG hX hX0
        go_wp2_with (go_at_call 20; refine (hP _ b3).mono ?_; rintro r w4 ⟨rfl, b4⟩; obtain ⟨m0, m1, m2⟩ := hx _ b4)
        clear hP
        go_region_held3 (fun w' => (w'.cell? ⟨w.heap.size, 0, none⟩ = some (.int .i64 1) ∧ w'.cell? ⟨w.heap.size, 1, none⟩ = some (.int .i64 1) ∧ w'.cell? ⟨w.heap.size, 2, none⟩ = some (.string ⟨#[]⟩)) ∧ Below W0.heap.size W0 w')
          (exact ⟨by first | (with_reducible assumption) | (simp [*]; done), by first | (with_reducible assumption) | exact b4.drew⟩)
          (first
            | (go_at_call 106; refine (from_below (w := W0) ?_ (plain_f _ _)).mono ?_; (· first | assumption | (apply And.right; assumption)); rintro r w5 ⟨rfl, b5⟩; obtain ⟨m0, m1, m2⟩ := hx _ b5; have mm := And.intro m0 (And.intro m1 m2))
            | (go_at_call 105; refine (from_below (w := W0) ?_ (kind_f _ _)).mono ?_; (· first | assumption | (apply And.right; assumption)); rintro r w5 ⟨rfl, b5⟩; obtain ⟨m0, m1, m2⟩ := hx _ b5; have mm := And.intro m0 (And.intro m1 m2)))
        go_wp2
        go_meet
        case rel => first | assumption | (apply And.right; assumption)
      · simp [valOf] at hV; subst hV; clear hc cC hG hX hX0
        go_wp2_with (go_at_call 20; refine (hP _ b3).mono ?_; rintro r w4 ⟨rfl, b4⟩; obtain ⟨m0, m1, m2⟩ := hx _ b4)
        clear hP
        go_region_held3 (fun w' => (w'.cell? ⟨w.heap.size, 0, none⟩ = some (.int .i64 2) ∧ w'.cell? ⟨w.heap.size, 1, none⟩ = some (.int .i64 n) ∧ w'.cell? ⟨w.heap.size, 2, none⟩ = some (.string ⟨#[]⟩)) ∧ Below W0.heap.size W0 w')
          (exact ⟨by first | (with_reducible assumption) | (simp [*]; done), by first | (with_reducible assumption) | exact b4.drew⟩)
          (first
            | (go_at_call 102; refine (from_below (w := W0) ?_ (plain_d _ _)).mono ?_; (· first | assumption | (apply And.right; assumption)); rintro r w5 ⟨rfl, b5⟩; obtain ⟨m0, m1, m2⟩ := hx _ b5; have mm := And.intro m0 (And.intro m1 m2))
            | (go_at_call 101; refine (from_below (w := W0) ?_ (kind_d _ _)).mono ?_; (· first | assumption | (apply And.right; assumption)); rintro r w5 ⟨rfl, b5⟩; obtain ⟨m0, m1, m2⟩ := hx _ b5; have mm := And.intro m0 (And.intro m1 m2)))
        go_wp2
        go_meet
        case rel => first | assumption | (apply And.right; assumption)
      · simp [valOf] at hV; subst hV; clear hc cC hG hX hX0
        go_wp2_with (go_at_call 20; refine (hP _ b3).mono ?_; rintro r w4 ⟨rfl, b4⟩; obtain ⟨m0, m1, m2⟩ := hx _ b4)
        clear hP
        go_region_held3 (fun w' => (w'.cell? ⟨w.heap.size, 0, none⟩ = some (.int .i64 3) ∧ w'.cell? ⟨w.heap.size, 1, none⟩ = some (.int .i64 0) ∧ w'.cell? ⟨w.heap.size, 2, none⟩ = some (.string t)) ∧ Below W0.heap.size W0 w')
          (exact ⟨by first | (with_reducible assumption) | (simp [*]; done), by first | (with_reducible assumption) | exact b4.drew⟩)
          (first
            | (go_at_call 108; refine (from_below (w := W0) ?_ (plain_t _ _)).mono ?_; (· first | assumption | (apply And.right; assumption)); rintro r w5 ⟨rfl, b5⟩; obtain ⟨m0, m1, m2⟩ := hx _ b5; have mm := And.intro m0 (And.intro m1 m2))
            | (go_at_call 107; refine (from_below (w := W0) ?_ (kind_t _ _)).mono ?_; (· first | assumption | (apply And.right; assumption)); rintro r w5 ⟨rfl, b5⟩; obtain ⟨m0, m1, m2⟩ := hx _ b5; have mm := And.intro m0 (And.intro m1 m2)))
        go_wp2
        go_meet
        case rel => first | assumption | (apply And.right; assumption)
  case rest =>
    have b3 := hcut
    clear hx hG hX
    by_cases he : (prs s).1 = 0
    · obtain ⟨k2, n2, t2, hp⟩ : ∃ k2 n2 t2, prs s = (0, k2, n2, t2) := ⟨(prs s).2.1, (prs s).2.2.1, (prs s).2.2.2, by rw [← he]⟩
      have hok := (prs_ok hp).1
      have cP := HP.out
      have cT2 := HT2.out k2 n2 t2 hp
      have cC2 := HC2.out k2 n2 t2 hp
      rw [hok, errOf_zero] at cC2
      rw [(prs_ok hp).2.1] at cT2
      rw [hp] at cP
      rw [show resV (0, k2, n2, t2) = valOf k2 n2 t2 from rfl, show errOf a 0 = .nilIface from rfl] at cP
      obtain ⟨V, hV⟩ : ∃ V, valOf k2 n2 t2 = V := ⟨_, rfl⟩
      rw [hV] at cP
      clear HP HT2 HC2 HB he hp
      rcases good_cases hok with ⟨rfl, rfl, rfl⟩ | ⟨rfl, rfl, rfl⟩ | ⟨rfl, rfl, rfl⟩ | ⟨rfl, rfl⟩ | ⟨rfl, rfl, _⟩
      · simp [valOf] at hV; subst hV; clear hok
        go_wp2_with fail
        refine (cP _ b3).mono ?_; rintro r w4 ⟨rfl, b4⟩
        go_wp2_with fail
        refine (from_below (w := W0) b4 (plain_n _)).mono ?_; rintro r w5 ⟨rfl, b5⟩
        go_wp2_with fail
        refine (cT2 _ b5).mono ?_; rintro r w6 ⟨rfl, b6⟩
        go_wp2_with fail
        refine (from_below (w := W0) b6 (plain_n _)).mono ?_; rintro r w7 ⟨rfl, b7⟩
        go_wp2_with fail
        refine (cC2 _ b7).mono ?_; rintro r w8 ⟨rfl, b8⟩
        go_wp2
        go_ret
        exact ⟨rfl, b0.trans (b8.mono b0.size)⟩
      · simp [valOf] at hV; subst hV; clear hok
        go_wp2_with fail
        refine (cP _ b3).mono ?_; rintro r w4 ⟨rfl, b4⟩
        go_wp2_with fail
        refine (from_below (w := W0) b4 (plain_f _ _)).mono ?_; rintro r w5 ⟨rfl, b5⟩
        go_wp2_with fail
        refine (cT2 _ b5).mono ?_; rintro r w6 ⟨rfl, b6⟩
        go_wp2_with fail
        refine (from_below (w := W0) b6 (plain_f _ _)).mono ?_; rintro r w7 ⟨rfl, b7⟩
        go_wp2_with fail
        refine (cC2 _ b7).mono ?_; rintro r w8 ⟨rfl, b8⟩
        go_wp2
        go_ret
        exact ⟨rfl, b0.trans (b8.mono b0.size)⟩
      · simp [valOf] at hV; subst hV; clear hok
        go_wp2_with fail
        refine (cP _ b3).mono ?_; rintro r w4 ⟨rfl, b4⟩
        go_wp2_with fail
        refine (from_below (w := W0) b4 (plain_f _ _)).mono ?_; rintro r w5 ⟨rfl, b5⟩
        go_wp2_with fail
        refine (cT2 _ b5).mono ?_; rintro r w6 ⟨rfl, b6⟩
        go_wp2_with fail
        refine (from_below (w := W0) b6 (plain_f _ _)).mono ?_; rintro r w7 ⟨rfl, b7⟩
        go_wp2_with fail
        refine (cC2 _ b7).mono ?_; rintro r w8 ⟨rfl, b8⟩
        go_wp2
        go_ret
        exact ⟨rfl, b0.trans (b8.mono b0.size)⟩
      · simp [valOf] at hV; subst hV; clear hok
        go_wp2_with fail
        refine (cP _ b3).mono ?_; rintro r w4 ⟨rfl, b4⟩
        go_wp2_with fail
        refine (from_below (w := W0) b4 (plain_d _ _)).mono ?_; rintro r w5 ⟨rfl, b5⟩
        go_wp2_with fail
        refine (cT2 _ b5).mono ?_; rintro r w6 ⟨rfl, b6⟩
        go_wp2_with fail
        refine (from_below (w := W0) b6 (plain_d _ _)).mono ?_; rintro r w7 ⟨rfl, b7⟩
        go_wp2_with fail
        refine (cC2 _ b7).mono ?_; rintro r w8 ⟨rfl, b8⟩
        go_wp2
        go_ret
        exact ⟨rfl, b0.trans (b8.mono b0.size)⟩
      · simp [valOf] at hV; subst hV; clear hok
        go_wp2_with fail
        refine (cP _ b3).mono ?_; rintro r w4 ⟨rfl, b4⟩
        go_wp2_with fail
        refine (from_below (w := W0) b4 (plain_t _ _)).mono ?_; rintro r w5 ⟨rfl, b5⟩
        go_wp2_with fail
        refine (cT2 _ b5).mono ?_; rintro r w6 ⟨rfl, b6⟩
        go_wp2_with fail
        refine (from_below (w := W0) b6 (plain_t _ _)).mono ?_; rintro r w7 ⟨rfl, b7⟩
        go_wp2_with fail
        refine (cC2 _ b7).mono ?_; rintro r w8 ⟨rfl, b8⟩
        go_wp2
        go_ret
        exact ⟨rfl, b0.trans (b8.mono b0.size)⟩
    · obtain ⟨e, hE⟩ : ∃ e, (prs s).1 = e + 1 := ⟨(prs s).1 - 1, by omega⟩
      have cP := HP.out
      rw [show resV (prs s) = .nilIface by unfold resV; rw [if_neg he], hE, errOf_succ] at cP
      clear HP HT2 HC2 HB he hE
      go_wp2_with fail
      refine (cP _ b3).mono ?_; rintro r w4 ⟨rfl, b4⟩
      go_wp2
      go_ret
      exact ⟨rfl, b0.trans (b4.mono b0.size)⟩
end Go.Proofs.YtlmibpfikafbdaaDoor
