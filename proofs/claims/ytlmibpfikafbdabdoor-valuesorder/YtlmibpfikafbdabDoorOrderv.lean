/- Of all triples of Plains vellumlaw02.ValuesOrder answers true: the walk. -/
import Derived.Test.YtlmibpfikafbdabDoorFx
import Derived.Deep.DeepCutAuto
namespace Go.Proofs.YtlmibpfikafbdabDoor
open Go Go.RowKit Go.Lib
set_option linter.unusedVariables false

/-- A boxed Plain. -/
structure Box (B : Nat) (k n : Int) (t : ByteArray) (W : World) : Prop where
  c0 : W.cell? ⟨B, 0, none⟩ = some (.int .i64 k)
  c1 : W.cell? ⟨B, 1, none⟩ = some (.int .i64 n)
  c2 : W.cell? ⟨B, 2, none⟩ = some (.string t)
theorem Box.below {B : Nat} {k n : Int} {t : ByteArray} {W W' : World} (h : Box B k n t W) (hb : Below W.heap.size W W') : Box B k n t W' :=
  ⟨by rw [hb.cell (lt_of_cell h.c0)]; exact h.c0, by rw [hb.cell (lt_of_cell h.c1)]; exact h.c1, by rw [hb.cell (lt_of_cell h.c2)]; exact h.c2⟩
theorem ci_cases (x y : Int) : (x < y ∧ compareInt x y = -1) ∨ (x = y ∧ compareInt x y = 0) ∨ (y < x ∧ compareInt x y = 1) := by
  unfold compareInt
  by_cases h : x < y
  · left; simp [h]
  · by_cases h2 : x > y
    · right; right; simp [h, h2]
    · right; left
      refine ⟨by omega, by simp [h, h2]⟩
theorem cmp_range (k n : Int) (t : ByteArray) (k' n' : Int) (t' : ByteArray) : -1 ≤ cmpP k n t k' n' t' ∧ cmpP k n t k' n' t' ≤ 1 := by
  unfold cmpP orZ
  have h3 := cb_range t.data.toList t'.data.toList
  rcases ci_cases k k' with ⟨_, h1⟩ | ⟨_, h1⟩ | ⟨_, h1⟩ <;> rw [h1] <;> simp
  rcases ci_cases n n' with ⟨_, h2⟩ | ⟨_, h2⟩ | ⟨_, h2⟩ <;> rw [h2] <;> simp
  omega
theorem cmp_swap (k n : Int) (t : ByteArray) (k' n' : Int) (t' : ByteArray) : cmpP k' n' t' k n t = - cmpP k n t k' n' t' := by
  unfold cmpP orZ
  rcases ci_cases k k' with ⟨a1, h1⟩ | ⟨a1, h1⟩ | ⟨a1, h1⟩ <;> rcases ci_cases k' k with ⟨a2, h2⟩ | ⟨a2, h2⟩ | ⟨a2, h2⟩ <;> rw [h1, h2] <;> simp <;> (try omega)
  rcases ci_cases n n' with ⟨b1, g1⟩ | ⟨b1, g1⟩ | ⟨b1, g1⟩ <;> rcases ci_cases n' n with ⟨b2, g2⟩ | ⟨b2, g2⟩ | ⟨b2, g2⟩ <;> rw [g1, g2] <;> simp <;> (try omega)
  exact cb_swap _ _
theorem cmp_zero (k n : Int) (t : ByteArray) (k' n' : Int) (t' : ByteArray) : cmpP k n t k' n' t' = 0 ↔ samB k n t k' n' t' = true := by
  rw [samB_iff]
  unfold cmpP orZ
  rcases ci_cases k k' with ⟨a1, h1⟩ | ⟨a1, h1⟩ | ⟨a1, h1⟩ <;> rw [h1] <;> simp
  · omega
  · rcases ci_cases n n' with ⟨b1, g1⟩ | ⟨b1, g1⟩ | ⟨b1, g1⟩ <;> rw [g1] <;> simp
    · omega
    · rw [cb_zero]
      constructor
      · intro h; exact ⟨a1, b1, ByteArray.ext (Array.ext' h)⟩
      · rintro ⟨_, _, rfl⟩; rfl
    · omega
  · omega
theorem cmp_trans (k n : Int) (t : ByteArray) (k' n' : Int) (t' : ByteArray) (k2 n2 : Int) (t2 : ByteArray) (h1 : cmpP k n t k' n' t' ≤ 0) (h2 : cmpP k' n' t' k2 n2 t2 ≤ 0) :
    cmpP k n t k2 n2 t2 ≤ 0 ∧ (cmpP k n t k' n' t' < 0 → cmpP k n t k2 n2 t2 < 0) := by
  unfold cmpP orZ at *
  rcases ci_cases k k' with ⟨a1, e1⟩ | ⟨a1, e1⟩ | ⟨a1, e1⟩ <;> rw [e1] at h1 ⊢ <;>
  rcases ci_cases k' k2 with ⟨a2, e2⟩ | ⟨a2, e2⟩ | ⟨a2, e2⟩ <;> rw [e2] at h2 <;>
  rcases ci_cases k k2 with ⟨a3, e3⟩ | ⟨a3, e3⟩ | ⟨a3, e3⟩ <;> rw [e3] <;> simp at h1 h2 ⊢ <;> (try omega)
  rcases ci_cases n n' with ⟨b1, g1⟩ | ⟨b1, g1⟩ | ⟨b1, g1⟩ <;> rw [g1] at h1 ⊢ <;>
  rcases ci_cases n' n2 with ⟨b2, g2⟩ | ⟨b2, g2⟩ | ⟨b2, g2⟩ <;> rw [g2] at h2 <;>
  rcases ci_cases n n2 with ⟨b3, g3⟩ | ⟨b3, g3⟩ | ⟨b3, g3⟩ <;> rw [g3] <;> simp at h1 h2 ⊢ <;> (try omega)
  have := cb_trans _ _ _ h1 h2
  exact ⟨this.1, this.2.1⟩
theorem cmp_num {k n n' : Int} : cmpP k n ⟨#[]⟩ k n' ⟨#[]⟩ = compareInt n n' := by
  unfold cmpP orZ
  rcases ci_cases k k with ⟨a1, h1⟩ | ⟨a1, h1⟩ | ⟨a1, h1⟩
  · omega
  · rw [h1]; simp
    intro h
    rw [h, cb_zero]
  · omega
theorem cmp_text {t t' : ByteArray} : cmpP 3 0 t 3 0 t' = compareBytes t.data.toList t'.data.toList := by
  unfold cmpP orZ
  rcases ci_cases 3 3 with ⟨a1, h1⟩ | ⟨a1, h1⟩ | ⟨a1, h1⟩
  · omega
  · rcases ci_cases 0 0 with ⟨a2, h2⟩ | ⟨a2, h2⟩ | ⟨a2, h2⟩
    · omega
    · rw [h1, h2]; simp
    · omega
  · omega

/-- What the walk asks of the four numbers. -/
structure Ord (X Y Z U : Int) (B : Bool) : Prop where
  rng : X = -1 ∧ B = false ∧ Y = 1 ∨ X = 0 ∧ B = true ∧ Y = 0 ∨ X = 1 ∧ B = false ∧ Y = -1
  tr : X ≤ 0 → Z ≤ 0 → U ≤ 0
  st : X < 0 → Z ≤ 0 → U < 0
theorem ord_of (k n : Int) (t : ByteArray) (k' n' : Int) (t' : ByteArray) (k2 n2 : Int) (t2 : ByteArray) :
    Ord (cmpP k n t k' n' t') (cmpP k' n' t' k n t) (cmpP k' n' t' k2 n2 t2) (cmpP k n t k2 n2 t2) (samB k n t k' n' t') := by
  have h1 := cmp_range k n t k' n' t'
  have h2 := cmp_swap k n t k' n' t'
  have h3 := cmp_zero k n t k' n' t'
  refine ⟨?_, fun a b => (cmp_trans _ _ _ _ _ _ _ _ _ a b).1, fun a b => (cmp_trans _ _ _ _ _ _ _ _ _ (by omega) b).2 a⟩
  rw [h2]
  generalize cmpP k n t k' n' t' = X at *
  cases hB : samB k n t k' n' t'
  · rw [hB] at h3
    have : X ≠ 0 := fun h => by have := h3.1 h; cases this
    have : X = -1 ∨ X = 1 := by omega
    rcases this with rfl | rfl
    · left; simp
    · right; right; simp
  · rw [hB] at h3
    have : X = 0 := h3.2 rfl
    subst this
    right; left; simp

theorem box_new3 (w : World) (k n : Int) (t : ByteArray) (k' n' : Int) (t' : ByteArray) (k2 n2 : Int) (t2 : ByteArray) :
    ∃ W0, W0 = ((w.alloc (.cells #[.int .i64 k, .int .i64 n, .string t] 23)).alloc (.cells #[.int .i64 k', .int .i64 n', .string t'] 23)).alloc (.cells #[.int .i64 k2, .int .i64 n2, .string t2] 23) ∧
      Box w.heap.size k n t W0 ∧ Box (w.heap.size + 1) k' n' t' W0 ∧ Box (w.heap.size + 1 + 1) k2 n2 t2 W0 ∧ Below w.heap.size w W0 := by
  obtain ⟨W2, h2⟩ : ∃ W2, W2 = (w.alloc (.cells #[.int .i64 k, .int .i64 n, .string t] 23)).alloc (.cells #[.int .i64 k', .int .i64 n', .string t'] 23) := ⟨_, rfl⟩
  have a1 : Box w.heap.size k n t W2 := by rw [h2]; exact ⟨by simp, by simp, by simp⟩
  have a2 : Box (w.heap.size + 1) k' n' t' W2 := by rw [h2]; exact ⟨by simp, by simp, by simp⟩
  have hz : W2.heap.size = w.heap.size + 1 + 1 := by rw [h2]; simp
  have b2 : Below w.heap.size w W2 := by rw [h2]; exact ((Below.refl _ _).alloc (Nat.le_refl _) _).alloc (by simp) _
  have b3 := (Below.refl W2.heap.size W2).alloc (Nat.le_refl _) (.cells #[.int .i64 k2, .int .i64 n2, .string t2] 23)
  rw [← h2]
  refine ⟨_, rfl, a1.below b3, a2.below b3, ?_, b2.trans (b3.mono b2.size)⟩
  rw [← hz]
  exact ⟨by simp, by simp, by simp⟩

set_option maxHeartbeats 2000000 in
set_option maxRecDepth 100000 in
theorem order_walk {I : List Nat} {a : Nat → Addr} (k n : Int) (t : ByteArray) (k' n' : Int) (t' : ByteArray) (k2 n2 : Int) (t2 : ByteArray) (w : World) (hI : ∀ i ∈ [0, 3, 4, 9], i ∈ I) (hS : Std I a w) (hT : Strc w)
    (hs : t.size ≤ 281474976710656) (hs' : t'.size ≤ 281474976710656) :
    Calls Tryd.prog 3 #[pl k n t, pl k' n' t', pl k2 n2 t2] w fun r w' => r = .returned (.bool true) ∧ Below w.heap.size w w' := by
  obtain ⟨W0, hW0, hA, hB, hC, b0⟩ := box_new3 w k n t k' n' t' k2 n2 t2
  have hI' : ∀ i ∈ [0, 4, 9], i ∈ I := fun i hi => hI i (by simp at hi ⊢; omega)
  have hS0 := hS.below b0
  have hT0 := hT.below b0
  have cF := fixed_any W0 hI hS0 hT0
  have cU := fun (k n : Int) (t : ByteArray) (k' n' : Int) (t' : ByteArray) W (hW : Below W0.heap.size W0 W) => from_below hW (compare_any k n t k' n' t' W)
  have hord := ord_of k n t k' n' t' k2 n2 t2
  have e4 := eqIn_pl k n t k' n' t'
  obtain ⟨B, hBB⟩ : ∃ B, samB k n t k' n' t' = B := ⟨_, rfl⟩
  rw [hBB] at hord
  rw [hBB] at e4
  have hx := fun W (hW : Below W0.heap.size W0 W) => hA.below hW
  have hx' := fun W (hW : Below W0.heap.size W0 W) => hB.below hW
  have hx2 := fun W (hW : Below W0.heap.size W0 W) => hC.below hW
  have HO : Hid _ := hord
  have HS : Hid (Std I a W0 ∧ ∀ i ∈ [0, 4, 9], i ∈ I) := ⟨hS0, hI'⟩
  clear hS hT hI hI' hA hB hC hS0 hT0 hord hBB
  go_enter Tryd.func3, Tryd.ntmps3
  go_wp2_with fail
  rw [← hW0]
  clear hW0
  refine cF.mono ?_; rintro r w1 ⟨rfl, b1⟩
  clear cF
  obtain ⟨k0, k1, k3⟩ := hx _ b1
  obtain ⟨m0, m1, m2⟩ := hx' _ b1
  obtain ⟨l0, l1, l2⟩ := hx2 _ b1
  go_wp2_with fail
  go_region_held3 (fun w' => ((w'.cell? ⟨w.heap.size, 0, none⟩ = some (.int .i64 k) ∧ w'.cell? ⟨w.heap.size, 1, none⟩ = some (.int .i64 n) ∧ w'.cell? ⟨w.heap.size, 2, none⟩ = some (.string t)) ∧
      (w'.cell? ⟨w.heap.size + 1, 0, none⟩ = some (.int .i64 k') ∧ w'.cell? ⟨w.heap.size + 1, 1, none⟩ = some (.int .i64 n') ∧ w'.cell? ⟨w.heap.size + 1, 2, none⟩ = some (.string t')) ∧
      (w'.cell? ⟨w.heap.size + 1 + 1, 0, none⟩ = some (.int .i64 k2) ∧ w'.cell? ⟨w.heap.size + 1 + 1, 1, none⟩ = some (.int .i64 n2) ∧ w'.cell? ⟨w.heap.size + 1 + 1, 2, none⟩ = some (.string t2))) ∧ Below W0.heap.size W0 w')
    (exact ⟨by first | (with_reducible assumption) | (simp [*]; done), by first | (with_reducible assumption) | exact b1.drew⟩)
    (first | (go_at_call 5; refine (cU _ _ _ _ _ _ _ ?_).mono ?_; (· first | assumption | (apply And.right; assumption)); rintro r w3 ⟨rfl, b3⟩; have mm := And.intro (And.intro (hx _ b3).c0 (And.intro (hx _ b3).c1 (hx _ b3).c2)) (And.intro (And.intro (hx' _ b3).c0 (And.intro (hx' _ b3).c1 (hx' _ b3).c2)) (And.intro (hx2 _ b3).c0 (And.intro (hx2 _ b3).c1 (hx2 _ b3).c2)))))
  generalize hX : cmpP k n t k' n' t' = X at HO ⊢
  generalize cmpP k' n' t' k n t = Y at HO ⊢
  generalize cmpP k' n' t' k2 n2 t2 = Z at HO ⊢
  generalize cmpP k n t k2 n2 t2 = U at HO ⊢
  have HX : Hid (cmpP k n t k' n' t' = X) := hX
  clear hX k0 k1 k3 m0 m1 m2 l0 l1 l2 b1 cU
  obtain ⟨k0, k1, k3⟩ := hx _ b3
  obtain ⟨m0, m1, m2⟩ := hx' _ b3
  go_upto_region 4 with fail
  go_cut [68] (fun v wc => v = .bool false ∧ Below W0.heap.size W0 wc)
  case first =>
    obtain ⟨hr, h1, h2⟩ := HO.out
    clear HO HX HS hx hx' hx2
    rcases hr with ⟨rfl, rfl, rfl⟩ | ⟨rfl, rfl, rfl⟩ | ⟨rfl, rfl, rfl⟩
    · by_cases hz : Z ≤ 0
      · have hu := h2 (by omega) hz
        have hu1 : ¬ (0 < U) := by omega
        have hu2 : ¬ (0 ≤ U) := by omega
        clear h1 h2
        go_wp2
        go_meet
        case rel => exact ⟨rfl, b3⟩
      · clear h1 h2
        go_wp2
        go_meet
        case rel => exact ⟨rfl, b3⟩
    · by_cases hz : Z ≤ 0
      · have hu := h1 (by omega) hz
        have hu1 : ¬ (0 < U) := by omega
        clear h1 h2
        go_wp2
        go_meet
        case rel => exact ⟨rfl, b3⟩
      · clear h1 h2
        go_wp2
        go_meet
        case rel => exact ⟨rfl, b3⟩
    · clear h1 h2
      go_wp2
      go_meet
      case rel => exact ⟨rfl, b3⟩
  case rest =>
    obtain ⟨rfl, b4⟩ := hcut
    have c1 := fun W (hW : Below W0.heap.size W0 W) => from_below hW (check_any' k n t W HS.out.2 (HS.out.1.below hW) hs)
    have c2 := fun W (hW : Below W0.heap.size W0 W) => from_below hW (check_any' k' n' t' W HS.out.2 (HS.out.1.below hW) hs')
    have hXX := HX.out
    clear HO HX HS hx2 k0 k1 k3 m0 m1 m2 b3
    obtain ⟨k0, k1, k3⟩ := hx _ b4
    rcases Nat.eq_zero_or_pos (chk k n t) with hp | hp
    · rw [hp, errOf_zero] at c1
      rcases Nat.eq_zero_or_pos (chk k' n' t') with hq | hq
      · rw [hq, errOf_zero] at c2
        by_cases hk : k = k'
        · subst hk
          by_cases h3 : k = 3
          · subst h3
            have hn0 : n = 0 := by rcases good_cases hp with ⟨h, _⟩ | ⟨h, _⟩ | ⟨h, _⟩ | ⟨h, _⟩ | ⟨_, h, _⟩ <;> first | omega | exact h
            have hn1 : n' = 0 := by rcases good_cases hq with ⟨h, _⟩ | ⟨h, _⟩ | ⟨h, _⟩ | ⟨h, _⟩ | ⟨_, h, _⟩ <;> first | omega | exact h
            subst hn0; subst hn1
            rw [cmp_text] at hXX
            have hbl := cb_less t.data.toList t'.data.toList
            rw [hXX, ← toList_data, ← toList_data] at hbl
            clear hp hq hXX
            by_cases hlt : X < 0
            · have hbl' : Op.bytesLess t.toList t'.toList = true := by rw [hbl]; simpa using hlt
              clear hbl
              go_wp2_with (first | (go_at_call 6; refine (c1 _ b4).mono ?_; rintro r w5 ⟨rfl, b5⟩; obtain ⟨m0, m1, m2⟩ := hx' _ b5; obtain ⟨k0, k1, k3⟩ := hx _ b5; clear c1))
              refine (c2 _ b5).mono ?_; rintro r w6 ⟨rfl, b6⟩
              clear k0 k1 k3 m0 m1 m2
              obtain ⟨m0, m1, m2⟩ := hx' _ b6
              obtain ⟨k0, k1, k3⟩ := hx _ b6
              go_wp2
              go_ret
              exact ⟨rfl, b0.trans (b6.mono b0.size)⟩
            · have hbl' : Op.bytesLess t.toList t'.toList = false := by rw [hbl]; simpa using hlt
              have hd : decide (X < 0) = false := decide_eq_false hlt
              clear hbl hlt
              go_wp2_with (first | (go_at_call 6; refine (c1 _ b4).mono ?_; rintro r w5 ⟨rfl, b5⟩; obtain ⟨m0, m1, m2⟩ := hx' _ b5; obtain ⟨k0, k1, k3⟩ := hx _ b5; clear c1))
              refine (c2 _ b5).mono ?_; rintro r w6 ⟨rfl, b6⟩
              clear k0 k1 k3 m0 m1 m2
              obtain ⟨m0, m1, m2⟩ := hx' _ b6
              obtain ⟨k0, k1, k3⟩ := hx _ b6
              go_wp2
              go_ret
              exact ⟨rfl, b0.trans (b6.mono b0.size)⟩
          · have h3b : (k == 3) = false := by simpa using h3
            have ht0 : t = ⟨#[]⟩ := by rcases good_cases hp with ⟨_, _, h⟩ | ⟨_, _, h⟩ | ⟨_, _, h⟩ | ⟨_, h⟩ | ⟨h, _⟩ <;> first | exact h | exact absurd h h3
            have ht1 : t' = ⟨#[]⟩ := by rcases good_cases hq with ⟨_, _, h⟩ | ⟨_, _, h⟩ | ⟨_, _, h⟩ | ⟨_, h⟩ | ⟨h, _⟩ <;> first | exact h | exact absurd h h3
            subst ht0; subst ht1
            rw [cmp_num] at hXX
            have hci := ci_cases n n'
            rw [hXX] at hci
            clear hp hq hXX h3
            by_cases hlt : X < 0
            · have hlt2 : n < n' := by omega
              clear hci
              go_wp2_with (first | (go_at_call 6; refine (c1 _ b4).mono ?_; rintro r w5 ⟨rfl, b5⟩; obtain ⟨m0, m1, m2⟩ := hx' _ b5; obtain ⟨k0, k1, k3⟩ := hx _ b5; clear c1))
              refine (c2 _ b5).mono ?_; rintro r w6 ⟨rfl, b6⟩
              clear k0 k1 k3 m0 m1 m2
              obtain ⟨m0, m1, m2⟩ := hx' _ b6
              obtain ⟨k0, k1, k3⟩ := hx _ b6
              go_wp2
              go_ret
              exact ⟨rfl, b0.trans (b6.mono b0.size)⟩
            · have hd : decide (X < 0) = false := decide_eq_false hlt
              have hd2 : decide (n < n') = false := decide_eq_false (by omega)
              clear hci hlt
              go_wp2_with (first | (go_at_call 6; refine (c1 _ b4).mono ?_; rintro r w5 ⟨rfl, b5⟩; obtain ⟨m0, m1, m2⟩ := hx' _ b5; obtain ⟨k0, k1, k3⟩ := hx _ b5; clear c1))
              refine (c2 _ b5).mono ?_; rintro r w6 ⟨rfl, b6⟩
              clear k0 k1 k3 m0 m1 m2
              obtain ⟨m0, m1, m2⟩ := hx' _ b6
              obtain ⟨k0, k1, k3⟩ := hx _ b6
              go_wp2
              go_ret
              exact ⟨rfl, b0.trans (b6.mono b0.size)⟩
        · have hkb : (k == k') = false := by simpa using hk
          clear hp hq hXX hk
          go_wp2_with (first | (go_at_call 6; refine (c1 _ b4).mono ?_; rintro r w5 ⟨rfl, b5⟩; obtain ⟨m0, m1, m2⟩ := hx' _ b5; obtain ⟨k0, k1, k3⟩ := hx _ b5; clear c1))
          refine (c2 _ b5).mono ?_; rintro r w6 ⟨rfl, b6⟩
          clear k0 k1 k3 m0 m1 m2
          obtain ⟨m0, m1, m2⟩ := hx' _ b6
          obtain ⟨k0, k1, k3⟩ := hx _ b6
          go_wp2
          go_ret
          exact ⟨rfl, b0.trans (b6.mono b0.size)⟩
      · obtain ⟨e, he⟩ : ∃ e, chk k' n' t' = e + 1 := ⟨chk k' n' t' - 1, by omega⟩
        rw [he, errOf_succ] at c2
        clear hp hq hXX he
        go_wp2_with (first | (go_at_call 6; refine (c1 _ b4).mono ?_; rintro r w5 ⟨rfl, b5⟩; obtain ⟨m0, m1, m2⟩ := hx' _ b5; obtain ⟨k0, k1, k3⟩ := hx _ b5; clear c1))
        refine (c2 _ b5).mono ?_; rintro r w6 ⟨rfl, b6⟩
        clear k0 k1 k3 m0 m1 m2
        obtain ⟨m0, m1, m2⟩ := hx' _ b6
        obtain ⟨k0, k1, k3⟩ := hx _ b6
        go_wp2
        go_ret
        exact ⟨rfl, b0.trans (b6.mono b0.size)⟩
    · obtain ⟨e, he⟩ : ∃ e, chk k n t = e + 1 := ⟨chk k n t - 1, by omega⟩
      rw [he, errOf_succ] at c1
      clear hp hXX he
      go_wp2_with (first | (go_at_call 6; refine (c1 _ b4).mono ?_; rintro r w5 ⟨rfl, b5⟩; obtain ⟨m0, m1, m2⟩ := hx' _ b5; obtain ⟨k0, k1, k3⟩ := hx _ b5; clear c1))
      go_ret
      exact ⟨rfl, b0.trans (b5.mono b0.size)⟩
end Go.Proofs.YtlmibpfikafbdabDoor
