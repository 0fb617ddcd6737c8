/- slices.BinarySearchFunc at pairs, by their keys. -/
import Derived.Test.YtigmhbgdnmkooaaDoorSk
import Derived.Test.YtigmhbgdnmkooaaDoorRj
import Derived.Deep.RegionHeld3
namespace Go.Proofs.YtigmhbgdnmkooaaDoor
open Go Go.RowKit Go.Lib
set_option linter.unusedVariables false

set_option maxHeartbeats 2000000 in
set_option maxRecDepth 100000 in
theorem search_any (v : Value) (L : List A2) (q : A2) (w : World) (hv : RowA w v L) (hl : L.length ≤ 1048576) (hU : Up L) :
    Calls Tryd.prog 45 #[v, atV q, .func (.func 41) #[] #[]] w fun r w' => ∃ (i : Nat) (has : Bool), r = .returned (.tuple #[.int .i64 i, .bool has]) ∧ (has = true → ∃ p, L[i]? = some (q.1, p)) ∧ (has = false → look q.1 L = none) ∧ Below w.heap.size w w' := by
  obtain ⟨n, hn⟩ : ∃ n, L.length = n := ⟨_, rfl⟩
  obtain ⟨qk, qx, qn, qt⟩ := q
  obtain ⟨W0, hW0⟩ : ∃ W0, W0 = w.alloc (.cells #[.string qk, .int .i64 qx, .int .i64 qn, .string qt] 48) := ⟨_, rfl⟩
  have b0 : Below w.heap.size w W0 := by rw [hW0]; exact (Below.refl _ _).alloc (Nat.le_refl _) _
  have pQ : PairAt W0 w.heap.size 0 (qk, qx, qn, qt) := by rw [hW0]; exact ⟨by simp, by simp, by simp, by simp⟩
  obtain ⟨p, cap, rfl, hcap, hc⟩ := hv.below b0
  rw [hn] at hl hcap
  rw [show (Value.slice p L.length cap) = .slice p n cap by rw [hn]]
  have HN : Hid (L.length = n) := hn
  have HC : Hid _ := hc
  have HU : Hid (Up L) := hU
  have HB : Hid (Below w.heap.size w W0) := b0
  have HQ : Hid (PairAt W0 w.heap.size 0 (qk, qx, qn, qt)) := pQ
  clear hc hn hv hU b0 pQ
  have eg := enters_of Tryd.func41 (by kernel_rfl) rfl
  go_enter Tryd.func45, Tryd.ntmps45
  go_wp2
  rw [← hW0]
  obtain ⟨E, hE⟩ : ∃ E, w.heap.size = E := ⟨_, rfl⟩
  rw [hE] at HQ ⊢
  clear hW0 hE
  go_loopw [9, 10, 11] (fun s t u wr => ∃ (i j : Nat), i ≤ j ∧ j ≤ n ∧ s = .int .i64 i ∧ t = .int .i64 j ∧ Below W0.heap.size W0 wr ∧ Hid ((∀ k x, k < i → L[k]? = some x → kc x.1 qk < 0) ∧ ∀ k x, j ≤ k → L[k]? = some x → ¬ kc x.1 qk < 0)) (fun s t _ _ => (RowKit.intOf t).toNat - (RowKit.intOf s).toNat)
  case atStart => exact ⟨0, n, Nat.zero_le _, Nat.le_refl _, rfl, rfl, Below.refl _ _, fun k x h => by omega, fun k x h hx => by have := (List.getElem?_eq_some_iff.1 hx).1; rw [HN.out] at this; omega⟩
  case round =>
    obtain ⟨i, j, hij, hjn, rfl, rfl, bw, H⟩ := hrel
    by_cases hlt : i < j
    · have hltI : (i : Int) < (j : Int) := by omega
      obtain ⟨h, hh⟩ : ∃ h, (i + j) / 2 = h := ⟨_, rfl⟩
      have he : ((i : Int) + (j : Int)) / 2 = (h : Int) := by omega
      have hih : i ≤ h := by omega
      have hhj : h < j := by omega
      obtain ⟨x, hx⟩ : ∃ x, L[h]? = some x := ⟨_, List.getElem?_eq_getElem (by rw [HN.out]; omega)⟩
      obtain ⟨b, off, rfl, hp⟩ := HC.out h x hx
      obtain ⟨xk, xx, xn, xt⟩ := x
      have HX : Hid (∀ w', Below W0.heap.size W0 w' → (w'.cell? ⟨b, off + h * 4, none⟩ = some (.string xk) ∧ w'.cell? ⟨b, off + h * 4 + 1, none⟩ = some (.int .i64 xx) ∧ w'.cell? ⟨b, off + h * 4 + 2, none⟩ = some (.int .i64 xn) ∧ w'.cell? ⟨b, off + h * 4 + 3, none⟩ = some (.string xt) ∧ w'.cell? ⟨E, 0, none⟩ = some (.string qk) ∧ w'.cell? ⟨E, 1, none⟩ = some (.int .i64 qx) ∧ w'.cell? ⟨E, 2, none⟩ = some (.int .i64 qn) ∧ w'.cell? ⟨E, 3, none⟩ = some (.string qt))) := fun w' hw => by
        obtain ⟨a0, a1, a2, a3⟩ := hp.below hw
        obtain ⟨a4, a5, a6, a7⟩ := HQ.out.below hw
        rw [Nat.zero_add] at a5 a6 a7
        exact ⟨a0, a1, a2, a3, a4, a5, a6, a7⟩
      have cK : ∀ W, Below W0.heap.size W0 W → Calls Tryd.prog 41 #[atV (xk, xx, xn, xt), atV (qk, qx, qn, qt)] W fun e w' => e = .returned (.int .i64 (kc xk qk)) ∧ Below W0.heap.size W0 w' := fun W hW => (byKey_any (xk, xx, xn, xt) (qk, qx, qn, qt) W).mono fun e w' ⟨h1, h2⟩ => ⟨h1, by rw [h2]; exact (hW.alloc hW.size _).alloc (by have := hW.size; simp; omega) _⟩
      obtain ⟨c0, c1, c2, c3, e0, e1, e2, e3⟩ := HX.out _ bw
      have H2 : Hid (L[h]? = some (xk, xx, xn, xt)) := hx
      clear hx hp
      have hhI : (h : Int) < (n : Int) := by omega
      have hhO : (0 : Int) ≤ (h : Int) := by omega
      by_cases hk : kc xk qk < 0
      · have HH : Hid ((∀ k x, k < h + 1 → L[k]? = some x → kc x.1 qk < 0) ∧ ∀ k x, j ≤ k → L[k]? = some x → ¬ kc x.1 qk < 0) := ⟨fun k y hy hl => by
          rcases Nat.lt_or_ge k h with h1 | h1
          · obtain ⟨hkl, e⟩ := List.getElem?_eq_some_iff.1 hl
            obtain ⟨hhl, e'⟩ := List.getElem?_eq_some_iff.1 H2.out
            have := List.pairwise_iff_getElem.1 HU.out k h hkl hhl h1
            rw [e, e'] at this
            exact kc_lt this hk
          · obtain rfl : k = h := by omega
            rw [H2.out] at hl
            rw [← Option.some.inj hl]; exact hk, H.out.2⟩
        clear H H2
        go_wp2_with fail
        go_region_held3 (fun w' => (w'.cell? ⟨b, off + h * 4, none⟩ = some (.string xk) ∧ w'.cell? ⟨b, off + h * 4 + 1, none⟩ = some (.int .i64 xx) ∧ w'.cell? ⟨b, off + h * 4 + 2, none⟩ = some (.int .i64 xn) ∧ w'.cell? ⟨b, off + h * 4 + 3, none⟩ = some (.string xt) ∧ w'.cell? ⟨E, 0, none⟩ = some (.string qk) ∧ w'.cell? ⟨E, 1, none⟩ = some (.int .i64 qx) ∧ w'.cell? ⟨E, 2, none⟩ = some (.int .i64 qn) ∧ w'.cell? ⟨E, 3, none⟩ = some (.string qt)) ∧ Below W0.heap.size W0 w')
          (exact ⟨by first | (with_reducible assumption) | (simp [*]; done), by first | (with_reducible assumption) | exact bw.drew⟩)
          (first | (go_at_call 41; refine (cK _ ?_).mono ?_; (· first | assumption | (apply And.right; assumption)); rintro r w3 ⟨rfl, b3⟩; have mm := HX.out _ b3))
        go_wp2
        go_roundw
        case rel => exact ⟨h + 1, j, by omega, hjn, by go_num, rfl, b3, HH.out.1, fun k x g1 g2 => by have := HH.out.2 k x g1 g2; omega⟩
        case measure => simp [RowKit.intOf]; omega
      · have HH : Hid ((∀ k x, k < i → L[k]? = some x → kc x.1 qk < 0) ∧ ∀ k x, h ≤ k → L[k]? = some x → ¬ kc x.1 qk < 0) := ⟨H.out.1, fun k y hy hl hc => by
          rcases Nat.lt_or_ge h k with h1 | h1
          · obtain ⟨hkl, e⟩ := List.getElem?_eq_some_iff.1 hl
            obtain ⟨hhl, e'⟩ := List.getElem?_eq_some_iff.1 H2.out
            have := List.pairwise_iff_getElem.1 HU.out h k hhl hkl h1
            rw [e, e'] at this
            exact hk (kc_lt this hc)
          · obtain rfl : k = h := by omega
            rw [H2.out] at hl
            rw [← Option.some.inj hl] at hc; exact hk hc⟩
        clear H H2
        go_wp2_with fail
        go_region_held3 (fun w' => (w'.cell? ⟨b, off + h * 4, none⟩ = some (.string xk) ∧ w'.cell? ⟨b, off + h * 4 + 1, none⟩ = some (.int .i64 xx) ∧ w'.cell? ⟨b, off + h * 4 + 2, none⟩ = some (.int .i64 xn) ∧ w'.cell? ⟨b, off + h * 4 + 3, none⟩ = some (.string xt) ∧ w'.cell? ⟨E, 0, none⟩ = some (.string qk) ∧ w'.cell? ⟨E, 1, none⟩ = some (.int .i64 qx) ∧ w'.cell? ⟨E, 2, none⟩ = some (.int .i64 qn) ∧ w'.cell? ⟨E, 3, none⟩ = some (.string qt)) ∧ Below W0.heap.size W0 w')
          (exact ⟨by first | (with_reducible assumption) | (simp [*]; done), by first | (with_reducible assumption) | exact bw.drew⟩)
          (first | (go_at_call 41; refine (cK _ ?_).mono ?_; (· first | assumption | (apply And.right; assumption)); rintro r w3 ⟨rfl, b3⟩; have mm := HX.out _ b3))
        go_wp2
        go_roundw
        case rel => exact ⟨i, h, hih, by omega, rfl, rfl, b3, HH.out.1, fun k x g1 g2 => by have := HH.out.2 k x g1 g2; omega⟩
        case measure => simp [RowKit.intOf]; omega
    · have hltI : ¬ (i : Int) < (j : Int) := by omega
      obtain rfl : i = j := by omega
      by_cases hin : i < n
      · have hinI : (i : Int) < (n : Int) := by omega
        have hi0 : (0 : Int) ≤ (i : Int) := by omega
        obtain ⟨x, hx⟩ : ∃ x, L[i]? = some x := ⟨_, List.getElem?_eq_getElem (by rw [HN.out]; omega)⟩
        obtain ⟨b, off, rfl, hp⟩ := HC.out i x hx
        obtain ⟨xk, xx, xn, xt⟩ := x
        have HX : Hid (∀ w', Below W0.heap.size W0 w' → (w'.cell? ⟨b, off + i * 4, none⟩ = some (.string xk) ∧ w'.cell? ⟨b, off + i * 4 + 1, none⟩ = some (.int .i64 xx) ∧ w'.cell? ⟨b, off + i * 4 + 2, none⟩ = some (.int .i64 xn) ∧ w'.cell? ⟨b, off + i * 4 + 3, none⟩ = some (.string xt) ∧ w'.cell? ⟨E, 0, none⟩ = some (.string qk) ∧ w'.cell? ⟨E, 1, none⟩ = some (.int .i64 qx) ∧ w'.cell? ⟨E, 2, none⟩ = some (.int .i64 qn) ∧ w'.cell? ⟨E, 3, none⟩ = some (.string qt))) := fun w' hw => by
          obtain ⟨a0, a1, a2, a3⟩ := hp.below hw
          obtain ⟨a4, a5, a6, a7⟩ := HQ.out.below hw
          rw [Nat.zero_add] at a5 a6 a7
          exact ⟨a0, a1, a2, a3, a4, a5, a6, a7⟩
        have cK : ∀ W, Below W0.heap.size W0 W → Calls Tryd.prog 41 #[atV (xk, xx, xn, xt), atV (qk, qx, qn, qt)] W fun e w' => e = .returned (.int .i64 (kc xk qk)) ∧ Below W0.heap.size W0 w' := fun W hW => (byKey_any (xk, xx, xn, xt) (qk, qx, qn, qt) W).mono fun e w' ⟨h1, h2⟩ => ⟨h1, by rw [h2]; exact (hW.alloc hW.size _).alloc (by have := hW.size; simp; omega) _⟩
        obtain ⟨c0, c1, c2, c3, e0, e1, e2, e3⟩ := HX.out _ bw
        have H2 : Hid (L[i]? = some (xk, xx, xn, xt)) := hx
        obtain ⟨T, hT⟩ : ∃ T, (kc xk qk == 0) = T := ⟨_, rfl⟩
        have HF : Hid ((T = true → ∃ p, L[i]? = some (qk, p)) ∧ (T = false → look qk L = none)) := ⟨fun e => by
            have e0 : kc xk qk = 0 := by rw [e] at hT; simpa using hT
            rw [← kc_zero.1 e0]; exact ⟨_, H2.out⟩, fun e => by
            refine look_none fun y hy ey => ?_
            obtain ⟨k, hk⟩ := List.mem_iff_getElem?.1 hy
            have hne : kc xk qk ≠ 0 := by rw [e] at hT; simpa using hT
            rcases Nat.lt_trichotomy k i with h1 | h1 | h1
            · have := H.out.1 k y h1 hk
              rw [ey, kc_self] at this; omega
            · subst h1
              rw [H2.out] at hk
              rw [← Option.some.inj hk] at ey
              exact hne (kc_zero.2 ey)
            · obtain ⟨hkl, e1⟩ := List.getElem?_eq_some_iff.1 hk
              obtain ⟨hil, e2⟩ := List.getElem?_eq_some_iff.1 H2.out
              have h3 := List.pairwise_iff_getElem.1 HU.out i k hil hkl h1
              rw [e1, e2, ey] at h3
              exact H.out.2 i _ (Nat.le_refl _) H2.out h3⟩
        clear hx hp H H2
        go_wp2_with fail
        go_region_held3 (fun w' => (w'.cell? ⟨b, off + i * 4, none⟩ = some (.string xk) ∧ w'.cell? ⟨b, off + i * 4 + 1, none⟩ = some (.int .i64 xx) ∧ w'.cell? ⟨b, off + i * 4 + 2, none⟩ = some (.int .i64 xn) ∧ w'.cell? ⟨b, off + i * 4 + 3, none⟩ = some (.string xt) ∧ w'.cell? ⟨E, 0, none⟩ = some (.string qk) ∧ w'.cell? ⟨E, 1, none⟩ = some (.int .i64 qx) ∧ w'.cell? ⟨E, 2, none⟩ = some (.int .i64 qn) ∧ w'.cell? ⟨E, 3, none⟩ = some (.string qt)) ∧ Below W0.heap.size W0 w')
          (exact ⟨by first | (with_reducible assumption) | (simp [*]; done), by first | (with_reducible assumption) | exact bw.drew⟩)
          (first | (go_at_call 41; refine (cK _ ?_).mono ?_; (· first | assumption | (apply And.right; assumption)); rintro r w3 ⟨rfl, b3⟩; have mm := HX.out _ b3))
        go_wp2
        go_ret2
        exact ⟨i, T, rfl, HF.out.1, HF.out.2, HB.out.trans (b3.mono HB.out.size)⟩
      · have hinI : ¬ (i : Int) < (n : Int) := by omega
        have hinB : decide ((i : Int) < (n : Int)) = false := decide_eq_false hinI
        have HF : Hid (look qk L = none) := look_none fun y hy ey => by
          obtain ⟨k, hk⟩ := List.mem_iff_getElem?.1 hy
          have hkl := (List.getElem?_eq_some_iff.1 hk).1
          have := H.out.1 k y (by rw [HN.out] at hkl; omega) hk
          rw [ey, kc_self] at this; omega
        clear H
        go_wp2_with fail
        go_quiet (fail)
        go_wp2
        go_ret2
        exact ⟨i, false, rfl, (fun h => by cases h), fun _ => HF.out, HB.out.trans ((below_drewN bw _).mono HB.out.size)⟩
end Go.Proofs.YtigmhbgdnmkooaaDoor
