/- What the reference of layer 2 answers: Text; what the law's told answers. -/
import Derived.Test.YtlmibpfikafbdaaDoorRx
import Derived.Test.YtlmibpfikafbdaaDoorRv
import Derived.Test.YtlmibpfikafbdaaDoorNu
import Derived.Test.YtlmibpfikafbdaaDoorTypes
namespace Go.Proofs.YtlmibpfikafbdaaDoor
open Go Go.RowKit Go.Lib
set_option linter.unusedVariables false

theorem ref_dec (n : Int) (w : World) (h0 : -9223372036854775808 ≤ n) (h1 : n ≤ 9223372036854775807) :
    Calls Tryd.prog 29 #[.int .i64 n] w fun e w' => e = .returned (.string ⟨(itoa n).toArray⟩) ∧ Below w.heap.size w w' := by
  by_cases h : n < 0
  · exact ref_dec_neg n w h h0
  · exact ref_dec_pos n w (by omega) h1

theorem rtext_no (k n : Int) (t : ByteArray) (w : World) (hs : t.size ≤ 35184372087808) (e : Nat) (he : chk k n t = e + 1) :
    Calls Tryd.prog 16 #[pl k n t] w fun r w' => r = .returned (.tuple #[.string ⟨#[]⟩, .int .i64 ((e + 1 : Nat) : Int)]) ∧ Below w.heap.size w w' := by
  have b0 := (Below.refl w.heap.size w).alloc (Nat.le_refl _) (.cells #[.int .i64 k, .int .i64 n, .string t] 23)
  have c1 := from_below b0 (ref_chk k n t _ hs)
  rw [he] at c1
  obtain ⟨E, hE⟩ : ∃ E : Int, ((e + 1 : Nat) : Int) = E := ⟨_, rfl⟩
  rw [hE] at c1 ⊢
  have hz : (E != 0) = true := by rw [← hE]; simp; omega
  clear hE he
  go_enter Tryd.func16, Tryd.ntmps16
  go_wp2_with (go_at_call 10; refine c1.mono ?_; rintro r w1 ⟨rfl, b1⟩)
  go_ret2
  exact ⟨rfl, b1⟩

set_option maxHeartbeats 400000 in
theorem rtext_ok (k n : Int) (t : ByteArray) (w : World) (hs : t.size ≤ 35184372087808) (hn : rngB n = true) (he : chk k n t = 0) :
    Calls Tryd.prog 16 #[pl k n t] w fun r w' => r = .returned (.tuple #[.string (txtOf k n t), .int .i64 0]) ∧ Below w.heap.size w w' := by
  have b0 := (Below.refl w.heap.size w).alloc (Nat.le_refl _) (.cells #[.int .i64 k, .int .i64 n, .string t] 23)
  have c1 := ref_chk k n t (w.alloc (.cells #[.int .i64 k, .int .i64 n, .string t] 23)) hs
  rw [he] at c1
  have cD := fun W => ref_dec n W (rngB_iff.1 hn).1 (rngB_iff.1 hn).2
  obtain ⟨D, hD⟩ : ∃ D : ByteArray, ⟨(itoa n).toArray⟩ = D := ⟨_, rfl⟩
  rw [hD] at cD
  obtain ⟨T, hT⟩ : ∃ T, txtOf k n t = T := ⟨_, rfl⟩
  rw [hT]
  rcases good_cases he with ⟨rfl, rfl, rfl⟩ | ⟨rfl, rfl, rfl⟩ | ⟨rfl, rfl, rfl⟩ | ⟨rfl, rfl⟩ | ⟨rfl, rfl, _⟩
  · have : T = sNull := by rw [← hT]; rfl
    subst this
    unfold sNull
    clear hD cD he hT hn hs
    go_enter Tryd.func16, Tryd.ntmps16
    go_wp2_with (go_at_call 10; refine c1.mono ?_; rintro r w1 ⟨rfl, b⟩; have b1 := b0.trans (b.mono b0.size); have hc0 := b.cell (p := ⟨w.heap.size, 0, none⟩) (by simp); have hc1 := b.cell (p := ⟨w.heap.size, 1, none⟩) (by simp))
    go_ret2
    exact ⟨rfl, b1⟩
  · have : T = sFalse := by rw [← hT]; rfl
    subst this
    unfold sFalse
    clear hD cD he hT hn hs
    go_enter Tryd.func16, Tryd.ntmps16
    go_wp2_with (go_at_call 10; refine c1.mono ?_; rintro r w1 ⟨rfl, b⟩; have b1 := b0.trans (b.mono b0.size); have hc0 := b.cell (p := ⟨w.heap.size, 0, none⟩) (by simp); have hc1 := b.cell (p := ⟨w.heap.size, 1, none⟩) (by simp))
    go_ret2
    exact ⟨rfl, b1⟩
  · have : T = sTrue := by rw [← hT]; rfl
    subst this
    unfold sTrue
    clear hD cD he hT hn hs
    go_enter Tryd.func16, Tryd.ntmps16
    go_wp2_with (go_at_call 10; refine c1.mono ?_; rintro r w1 ⟨rfl, b⟩; have b1 := b0.trans (b.mono b0.size); have hc0 := b.cell (p := ⟨w.heap.size, 0, none⟩) (by simp); have hc1 := b.cell (p := ⟨w.heap.size, 1, none⟩) (by simp))
    go_ret2
    exact ⟨rfl, b1⟩
  · have : T = D := by rw [← hT, ← hD]; rfl
    subst this
    clear hD he hT hn hs
    go_enter Tryd.func16, Tryd.ntmps16
    go_wp2_with (first
      | (go_at_call 10; refine c1.mono ?_; rintro r w1 ⟨rfl, b⟩; have b1 := b0.trans (b.mono b0.size); have hc0 := b.cell (p := ⟨w.heap.size, 0, none⟩) (by simp); have hc1 := b.cell (p := ⟨w.heap.size, 1, none⟩) (by simp))
      | (go_at_call 29; refine (cD _).mono ?_; rintro r w2 ⟨rfl, b2⟩))
    go_ret2
    exact ⟨rfl, b1.trans (b2.mono b1.size)⟩
  · have : T = sQuote ++ t := by rw [← hT]; rfl
    subst this
    unfold sQuote
    clear hD cD he hT hn
    go_enter Tryd.func16, Tryd.ntmps16
    go_wp2_with (go_at_call 10; refine c1.mono ?_; rintro r w1 ⟨rfl, b⟩; have b1 := b0.trans (b.mono b0.size); have hc0 := b.cell (p := ⟨w.heap.size, 0, none⟩) (by simp); have hc2 := b.cell (p := ⟨w.heap.size, 2, none⟩) (by simp))
    go_ret2
    exact ⟨rfl, b1⟩

theorem told_bad {a : Nat → Addr} (k n : Int) (t : ByteArray) (w : World) (hN : Sent a w) (e : Nat) (he : e + 1 ≤ 19) :
    Calls Tryd.prog 14 #[.nilIface, errV a e, pl k n t, .int .i64 ((e + 1 : Nat) : Int)] w fun r w' => r = .returned (.bool true) ∧ Below w.heap.size w w' := by
  obtain ⟨W0, hW0, hB, b0⟩ := box_new w k n t
  have c1 := num_of (hN.below b0) (e + 1) he
  rw [show errOf a (e + 1) = errV a e from rfl] at c1
  obtain ⟨E, hE⟩ : ∃ E : Int, ((e + 1 : Nat) : Int) = E := ⟨_, rfl⟩
  rw [hE] at c1 ⊢
  have hz : (E != 0) = true := by rw [← hE]; simp; omega
  have hx := fun W (hW : Below W0.heap.size W0 W) => hB.below hW
  clear hE he hN hB
  go_enter Tryd.func14, Tryd.ntmps14
  go_wp2_with fail
  rw [← hW0]; clear hW0
  refine c1.mono ?_; rintro r w1 ⟨rfl, b1⟩
  obtain ⟨m0, m1, m2⟩ := hx _ b1
  go_wp2_with fail
  go_quiet (fail)
  go_wp2
  go_ret
  exact ⟨rfl, below_drewN (b0.trans (b1.mono b0.size)) _⟩

set_option maxHeartbeats 1000000 in
theorem told_good (k n : Int) (t : ByteArray) (w : World) (he : chk k n t = 0) :
    Calls Tryd.prog 14 #[valOf k n t, .nilIface, pl k n t, .int .i64 0] w fun r w' => r = .returned (.bool true) ∧ Below w.heap.size w w' := by
  obtain ⟨W0, hW0, hB, b0⟩ := box_new w k n t
  have c1 : Calls Tryd.prog 12 #[.nilIface] W0 fun r w' => r = .returned (.int .i64 0) ∧ Below W0.heap.size W0 w' := (num_nil W0).mono fun r w' ⟨h1, h2⟩ => ⟨h1, by rw [h2]; exact Below.refl _ _⟩
  have hx := fun W (hW : Below W0.heap.size W0 W) => hB.below hW
  clear hB
  obtain ⟨V, hV⟩ : ∃ V, valOf k n t = V := ⟨_, rfl⟩
  rw [hV]
  rcases good_cases he with ⟨rfl, rfl, rfl⟩ | ⟨rfl, rfl, rfl⟩ | ⟨rfl, rfl, rfl⟩ | ⟨rfl, rfl⟩ | ⟨rfl, rfl, _⟩
  all_goals simp [valOf] at hV; subst hV; clear he
  · go_enter Tryd.func14, Tryd.ntmps14
    go_wp2_with fail
    rw [← hW0]; clear hW0
    refine c1.mono ?_; rintro r w1 ⟨rfl, b1⟩
    obtain ⟨m0, m1, m2⟩ := hx _ b1
    go_wp2_with fail
    go_region_held3 (fun w' => (w'.cell? ⟨w.heap.size, 0, none⟩ = some (.int .i64 0) ∧ w'.cell? ⟨w.heap.size, 1, none⟩ = some (.int .i64 0) ∧ w'.cell? ⟨w.heap.size, 2, none⟩ = some (.string ⟨#[]⟩)) ∧ Below W0.heap.size W0 w')
      (exact ⟨by first | (with_reducible assumption) | (simp [*]; done), by first | (with_reducible assumption) | exact b1.drew⟩)
      (first
        | (go_at_call 104; refine (from_below (w := W0) ?_ (plain_n _)).mono ?_; (· first | assumption | (apply And.right; assumption)); rintro r w5 ⟨rfl, b5⟩; obtain ⟨m0, m1, m2⟩ := hx _ b5; have mm := And.intro m0 (And.intro m1 m2))
        | (go_at_call 103; refine (from_below (w := W0) ?_ (kind_n _)).mono ?_; (· first | assumption | (apply And.right; assumption)); rintro r w5 ⟨rfl, b5⟩; obtain ⟨m0, m1, m2⟩ := hx _ b5; have mm := And.intro m0 (And.intro m1 m2)))
    go_wp2
    go_ret
    exact ⟨rfl, b0.trans (Below.mono (by first | assumption | (apply And.right; assumption)) b0.size)⟩
  · go_enter Tryd.func14, Tryd.ntmps14
    go_wp2_with fail
    rw [← hW0]; clear hW0
    refine c1.mono ?_; rintro r w1 ⟨rfl, b1⟩
    obtain ⟨m0, m1, m2⟩ := hx _ b1
    go_wp2_with fail
    go_region_held3 (fun w' => (w'.cell? ⟨w.heap.size, 0, none⟩ = some (.int .i64 1) ∧ w'.cell? ⟨w.heap.size, 1, none⟩ = some (.int .i64 0) ∧ w'.cell? ⟨w.heap.size, 2, none⟩ = some (.string ⟨#[]⟩)) ∧ Below W0.heap.size W0 w')
      (exact ⟨by first | (with_reducible assumption) | (simp [*]; done), by first | (with_reducible assumption) | exact b1.drew⟩)
      (first
        | (go_at_call 106; refine (from_below (w := W0) ?_ (plain_f _ _)).mono ?_; (· first | assumption | (apply And.right; assumption)); rintro r w5 ⟨rfl, b5⟩; obtain ⟨m0, m1, m2⟩ := hx _ b5; have mm := And.intro m0 (And.intro m1 m2))
        | (go_at_call 105; refine (from_below (w := W0) ?_ (kind_f _ _)).mono ?_; (· first | assumption | (apply And.right; assumption)); rintro r w5 ⟨rfl, b5⟩; obtain ⟨m0, m1, m2⟩ := hx _ b5; have mm := And.intro m0 (And.intro m1 m2)))
    go_wp2
    go_ret
    exact ⟨rfl, b0.trans (Below.mono (by first | assumption | (apply And.right; assumption)) b0.size)⟩
  · go_enter Tryd.func14, Tryd.ntmps14
    go_wp2_with fail
    rw [← hW0]; clear hW0
    refine c1.mono ?_; rintro r w1 ⟨rfl, b1⟩
    obtain ⟨m0, m1, m2⟩ := hx _ b1
    go_wp2_with fail
    go_region_held3 (fun w' => (w'.cell? ⟨w.heap.size, 0, none⟩ = some (.int .i64 1) ∧ w'.cell? ⟨w.heap.size, 1, none⟩ = some (.int .i64 1) ∧ w'.cell? ⟨w.heap.size, 2, none⟩ = some (.string ⟨#[]⟩)) ∧ Below W0.heap.size W0 w')
      (exact ⟨by first | (with_reducible assumption) | (simp [*]; done), by first | (with_reducible assumption) | exact b1.drew⟩)
      (first
        | (go_at_call 106; refine (from_below (w := W0) ?_ (plain_f _ _)).mono ?_; (· first | assumption | (apply And.right; assumption)); rintro r w5 ⟨rfl, b5⟩; obtain ⟨m0, m1, m2⟩ := hx _ b5; have mm := And.intro m0 (And.intro m1 m2))
        | (go_at_call 105; refine (from_below (w := W0) ?_ (kind_f _ _)).mono ?_; (· first | assumption | (apply And.right; assumption)); rintro r w5 ⟨rfl, b5⟩; obtain ⟨m0, m1, m2⟩ := hx _ b5; have mm := And.intro m0 (And.intro m1 m2)))
    go_wp2
    go_ret
    exact ⟨rfl, b0.trans (Below.mono (by first | assumption | (apply And.right; assumption)) b0.size)⟩
  · go_enter Tryd.func14, Tryd.ntmps14
    go_wp2_with fail
    rw [← hW0]; clear hW0
    refine c1.mono ?_; rintro r w1 ⟨rfl, b1⟩
    obtain ⟨m0, m1, m2⟩ := hx _ b1
    go_wp2_with fail
    go_region_held3 (fun w' => (w'.cell? ⟨w.heap.size, 0, none⟩ = some (.int .i64 2) ∧ w'.cell? ⟨w.heap.size, 1, none⟩ = some (.int .i64 n) ∧ w'.cell? ⟨w.heap.size, 2, none⟩ = some (.string ⟨#[]⟩)) ∧ Below W0.heap.size W0 w')
      (exact ⟨by first | (with_reducible assumption) | (simp [*]; done), by first | (with_reducible assumption) | exact b1.drew⟩)
      (first
        | (go_at_call 102; refine (from_below (w := W0) ?_ (plain_d _ _)).mono ?_; (· first | assumption | (apply And.right; assumption)); rintro r w5 ⟨rfl, b5⟩; obtain ⟨m0, m1, m2⟩ := hx _ b5; have mm := And.intro m0 (And.intro m1 m2))
        | (go_at_call 101; refine (from_below (w := W0) ?_ (kind_d _ _)).mono ?_; (· first | assumption | (apply And.right; assumption)); rintro r w5 ⟨rfl, b5⟩; obtain ⟨m0, m1, m2⟩ := hx _ b5; have mm := And.intro m0 (And.intro m1 m2)))
    go_wp2
    go_ret
    exact ⟨rfl, b0.trans (Below.mono (by first | assumption | (apply And.right; assumption)) b0.size)⟩
  · go_enter Tryd.func14, Tryd.ntmps14
    go_wp2_with fail
    rw [← hW0]; clear hW0
    refine c1.mono ?_; rintro r w1 ⟨rfl, b1⟩
    obtain ⟨m0, m1, m2⟩ := hx _ b1
    go_wp2_with fail
    go_region_held3 (fun w' => (w'.cell? ⟨w.heap.size, 0, none⟩ = some (.int .i64 3) ∧ w'.cell? ⟨w.heap.size, 1, none⟩ = some (.int .i64 0) ∧ w'.cell? ⟨w.heap.size, 2, none⟩ = some (.string t)) ∧ Below W0.heap.size W0 w')
      (exact ⟨by first | (with_reducible assumption) | (simp [*]; done), by first | (with_reducible assumption) | exact b1.drew⟩)
      (first
        | (go_at_call 108; refine (from_below (w := W0) ?_ (plain_t _ _)).mono ?_; (· first | assumption | (apply And.right; assumption)); rintro r w5 ⟨rfl, b5⟩; obtain ⟨m0, m1, m2⟩ := hx _ b5; have mm := And.intro m0 (And.intro m1 m2))
        | (go_at_call 107; refine (from_below (w := W0) ?_ (kind_t _ _)).mono ?_; (· first | assumption | (apply And.right; assumption)); rintro r w5 ⟨rfl, b5⟩; obtain ⟨m0, m1, m2⟩ := hx _ b5; have mm := And.intro m0 (And.intro m1 m2)))
    go_wp2
    go_ret
    exact ⟨rfl, b0.trans (Below.mono (by first | assumption | (apply And.right; assumption)) b0.size)⟩
end Go.Proofs.YtlmibpfikafbdaaDoor
