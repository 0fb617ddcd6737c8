/- Of all pairs of Plains vellumlaw02.ValuesEqual answers true: the walk. -/
import Derived.Test.YtlmibpfikafbdaaDoorTypes
import Derived.Test.YtlmibpfikafbdaaDoorVr
import Derived.Test.YtlmibpfikafbdaaDoorVlist
namespace Go.Proofs.YtlmibpfikafbdaaDoor
open Go Go.RowKit Go.Lib
set_option linter.unusedVariables false

theorem vo_n (n : Int) (t : ByteArray) : valOf 0 n t = .iface 52 (.agg #[]) := by simp [valOf]
theorem vo_f0 (t : ByteArray) : valOf 1 0 t = .iface 54 (.bool false) := by simp [valOf]
theorem vo_f1 (t : ByteArray) : valOf 1 1 t = .iface 54 (.bool true) := by simp [valOf]
theorem vo_d (n : Int) (t : ByteArray) : valOf 2 n t = .iface 50 (.int .i64 n) := by simp [valOf]
theorem vo_t (n : Int) (t : ByteArray) : valOf 3 n t = .iface 55 (.string t) := by simp [valOf]
/-- Good values are equal by == just as their Plains are. -/
theorem eql_val {k n k' n' : Int} {t t' : ByteArray} (h : chk k n t = 0) (h' : chk k' n' t' = 0) (w : World) :
    (binOp .eql 27 (valOf k n t) (valOf k' n' t')).run Tryd.prog w = .ok (.bool (samB k n t k' n' t')) w := by
  rcases good_cases h with ⟨rfl, rfl, rfl⟩ | ⟨rfl, rfl, rfl⟩ | ⟨rfl, rfl, rfl⟩ | ⟨rfl, rfl⟩ | ⟨rfl, rfl, _⟩
  · rcases good_cases h' with ⟨rfl, rfl, rfl⟩ | ⟨rfl, rfl, rfl⟩ | ⟨rfl, rfl, rfl⟩ | ⟨rfl, rfl⟩ | ⟨rfl, rfl, _⟩
    · simp only [vo_n]; rw [show samB 0 0 ⟨#[]⟩ 0 0 ⟨#[]⟩ = true by simp [samB]]; exact eql_null w
    · simp only [vo_n, vo_f0]; rw [show samB 0 0 ⟨#[]⟩ 1 0 ⟨#[]⟩ = false by simp [samB]]; exact eql_types _ _ (by decide) w
    · simp only [vo_n, vo_f1]; rw [show samB 0 0 ⟨#[]⟩ 1 1 ⟨#[]⟩ = false by simp [samB]]; exact eql_types _ _ (by decide) w
    · simp only [vo_n, vo_d]; rw [show samB 0 0 ⟨#[]⟩ 2 n' ⟨#[]⟩ = false by simp [samB]]; exact eql_types _ _ (by decide) w
    · simp only [vo_n, vo_t]; rw [show samB 0 0 ⟨#[]⟩ 3 0 t' = false by simp [samB]]; exact eql_types _ _ (by decide) w
  · rcases good_cases h' with ⟨rfl, rfl, rfl⟩ | ⟨rfl, rfl, rfl⟩ | ⟨rfl, rfl, rfl⟩ | ⟨rfl, rfl⟩ | ⟨rfl, rfl, _⟩
    · simp only [vo_f0, vo_n]; rw [show samB 1 0 ⟨#[]⟩ 0 0 ⟨#[]⟩ = false by simp [samB]]; exact eql_types _ _ (by decide) w
    · simp only [vo_f0]; rw [show samB 1 0 ⟨#[]⟩ 1 0 ⟨#[]⟩ = true by simp [samB]]; exact eql_flag _ _ w
    · simp only [vo_f0, vo_f1]; rw [show samB 1 0 ⟨#[]⟩ 1 1 ⟨#[]⟩ = false by simp [samB]]; exact eql_flag _ _ w
    · simp only [vo_f0, vo_d]; rw [show samB 1 0 ⟨#[]⟩ 2 n' ⟨#[]⟩ = false by simp [samB]]; exact eql_types _ _ (by decide) w
    · simp only [vo_f0, vo_t]; rw [show samB 1 0 ⟨#[]⟩ 3 0 t' = false by simp [samB]]; exact eql_types _ _ (by decide) w
  · rcases good_cases h' with ⟨rfl, rfl, rfl⟩ | ⟨rfl, rfl, rfl⟩ | ⟨rfl, rfl, rfl⟩ | ⟨rfl, rfl⟩ | ⟨rfl, rfl, _⟩
    · simp only [vo_f1, vo_n]; rw [show samB 1 1 ⟨#[]⟩ 0 0 ⟨#[]⟩ = false by simp [samB]]; exact eql_types _ _ (by decide) w
    · simp only [vo_f1, vo_f0]; rw [show samB 1 1 ⟨#[]⟩ 1 0 ⟨#[]⟩ = false by simp [samB]]; exact eql_flag _ _ w
    · simp only [vo_f1]; rw [show samB 1 1 ⟨#[]⟩ 1 1 ⟨#[]⟩ = true by simp [samB]]; exact eql_flag _ _ w
    · simp only [vo_f1, vo_d]; rw [show samB 1 1 ⟨#[]⟩ 2 n' ⟨#[]⟩ = false by simp [samB]]; exact eql_types _ _ (by decide) w
    · simp only [vo_f1, vo_t]; rw [show samB 1 1 ⟨#[]⟩ 3 0 t' = false by simp [samB]]; exact eql_types _ _ (by decide) w
  · rcases good_cases h' with ⟨rfl, rfl, rfl⟩ | ⟨rfl, rfl, rfl⟩ | ⟨rfl, rfl, rfl⟩ | ⟨rfl, rfl⟩ | ⟨rfl, rfl, _⟩
    · simp only [vo_d, vo_n]; rw [show samB 2 n ⟨#[]⟩ 0 0 ⟨#[]⟩ = false by simp [samB]]; exact eql_types _ _ (by decide) w
    · simp only [vo_d, vo_f0]; rw [show samB 2 n ⟨#[]⟩ 1 0 ⟨#[]⟩ = false by simp [samB]]; exact eql_types _ _ (by decide) w
    · simp only [vo_d, vo_f1]; rw [show samB 2 n ⟨#[]⟩ 1 1 ⟨#[]⟩ = false by simp [samB]]; exact eql_types _ _ (by decide) w
    · simp only [vo_d]; rw [show samB 2 n ⟨#[]⟩ 2 n' ⟨#[]⟩ = (n == n') by simp [samB]]; exact eql_num _ _ w
    · simp only [vo_d, vo_t]; rw [show samB 2 n ⟨#[]⟩ 3 0 t' = false by simp [samB]]; exact eql_types _ _ (by decide) w
  · rcases good_cases h' with ⟨rfl, rfl, rfl⟩ | ⟨rfl, rfl, rfl⟩ | ⟨rfl, rfl, rfl⟩ | ⟨rfl, rfl⟩ | ⟨rfl, rfl, _⟩
    · simp only [vo_t, vo_n]; rw [show samB 3 0 t 0 0 ⟨#[]⟩ = false by simp [samB]]; exact eql_types _ _ (by decide) w
    · simp only [vo_t, vo_f0]; rw [show samB 3 0 t 1 0 ⟨#[]⟩ = false by simp [samB]]; exact eql_types _ _ (by decide) w
    · simp only [vo_t, vo_f1]; rw [show samB 3 0 t 1 1 ⟨#[]⟩ = false by simp [samB]]; exact eql_types _ _ (by decide) w
    · simp only [vo_t, vo_d]; rw [show samB 3 0 t 2 n' ⟨#[]⟩ = false by simp [samB]]; exact eql_types _ _ (by decide) w
    · simp only [vo_t]; rw [show samB 3 0 t 3 0 t' = (t.toList == t'.toList) by simp [samB]]; exact eql_text _ _ w
theorem samB_refl (k n : Int) (t : ByteArray) : samB k n t k n t = true := samB_iff.2 ⟨rfl, rfl, rfl⟩
theorem box_new2 (w : World) (k n : Int) (t : ByteArray) (k' n' : Int) (t' : ByteArray) :
    ∃ W0, W0 = (w.alloc (.cells #[.int .i64 k, .int .i64 n, .string t] 23)).alloc (.cells #[.int .i64 k', .int .i64 n', .string t'] 23) ∧ Box w.heap.size k n t W0 ∧ Box (w.heap.size + 1) k' n' t' W0 ∧ Below w.heap.size w W0 :=
  ⟨_, rfl, ⟨by simp, by simp, by simp⟩, ⟨by simp, by simp, by simp⟩, ((Below.refl _ _).alloc (Nat.le_refl _) _).alloc (by simp) _⟩
theorem row2 (W : World) (k n : Int) (t : ByteArray) (k' n' : Int) (t' : ByteArray) :
    RowP (W.alloc (.cells #[.int .i64 k, .int .i64 n, .string t, .int .i64 k', .int .i64 n', .string t'] 23)) (.slice (some ⟨W.heap.size, 0, none⟩) 2 2) [(k, n, t), (k', n', t')] :=
  ⟨some ⟨W.heap.size, 0, none⟩, 2, rfl, fun j q hq => by
    match j, hq with
    | 0, hq => obtain rfl : (k, n, t) = q := by simpa using hq
               exact ⟨_, _, rfl, by simp, by simp, by simp⟩
    | 1, hq => obtain rfl : (k', n', t') = q := by simpa using hq
               exact ⟨_, _, rfl, by simp, by simp, by simp⟩
    | j + 2, hq => simp at hq⟩

set_option maxHeartbeats 1000000 in
set_option maxRecDepth 100000 in
theorem equal_walk {I : List Nat} {a : Nat → Addr} (k n : Int) (t : ByteArray) (k' n' : Int) (t' : ByteArray) (w : World) (hI : ∀ i ∈ [0, 3, 4, 9], i ∈ I) (hS : Std I a w) (hT : Strc w) (hn : rngB n = true) (hs : t.size ≤ 281474976710656) (hs' : t'.size ≤ 281474976710656)
    (h : chk k n t = 0) (h' : chk k' n' t' = 0) :
    Calls Tryd.prog 7 #[pl k n t, pl k' n' t'] w fun r w' => r = .returned (.bool true) ∧ Below w.heap.size w w' := by
  obtain ⟨W0, hW0, hB, hB', b0⟩ := box_new2 w k n t k' n' t'
  have hI' : ∀ i ∈ [0, 4, 9], i ∈ I := fun i hi => hI i (by simp at hi ⊢; omega)
  have hS0 := hS.below b0
  have hT0 := hT.below b0
  have hn' := rngB_iff.1 hn
  have cF := fixed_any W0 hI hS0 hT0
  have cO := fun W (hW : Below W0.heap.size W0 W) => from_below hW (of_ok k n t W hI' (hS0.below hW) hs h)
  have cO' := fun W (hW : Below W0.heap.size W0 W) => from_below hW (of_ok k' n' t' W hI' (hS0.below hW) hs' h')
  have cT := fun Wb (hb : Below W0.heap.size W0 Wb) W (hW : Below Wb.heap.size Wb W) => from_below hW (text_ok k n t W hI' ((hS0.below hb).below hW) ((hT0.below hb).below hW) hs hn'.1 hn'.2 h)
  have cP := fun Wb (hb : Below W0.heap.size W0 Wb) W (hW : Below Wb.heap.size Wb W) => from_below hW (parse_any (txtOf k n t) W hI ((hS0.below hb).below hW) ((hT0.below hb).below hW) (by have := txtOf_size h hn; omega))
  rw [prs_txt h hn, show resV (0, k, n, t) = valOf k n t from rfl, show errOf a 0 = .nilIface from rfl] at cP
  have cL := fun W v (hW : Below W0.heap.size W0 W) (hr : RowP W v [(k', n', t'), (k, n, t)]) => list_gen v _ 2 W hI' (hS0.below hW) hr (by simp; exact ⟨hs', hs⟩) (by simp) (by simp) (fun j q hj hq => by
    match j, hq with
    | 0, hq => obtain rfl : (k', n', t') = q := (by simpa using hq); exact h'
    | 1, hq => obtain rfl : (k, n, t) = q := (by simpa using hq); exact h
    | j + 2, hq => simp at hq) 0 (fun q hq => by simp at hq)
  have e1 := eql_val h h'
  have e2 := eql_val h h
  have e3 := eql_val h' h'
  rw [samB_refl] at e2 e3
  have e4 := eqIn_pl k n t k' n' t'
  obtain ⟨B, hBB⟩ : ∃ B, samB k n t k' n' t' = B := ⟨_, rfl⟩
  rw [hBB] at e1 e4
  obtain ⟨tu, tx, hV⟩ := valOf_iface k n t
  obtain ⟨tu', tx', hV'⟩ := valOf_iface k' n' t'
  rw [hV] at e1 e2 cO cP
  rw [hV'] at e1 e3 cO'
  have HV : Hid (valOf k n t = .iface tu tx) := hV
  have HV' : Hid (valOf k' n' t' = .iface tu' tx') := hV'
  have hx := fun W (hW : Below W0.heap.size W0 W) => hB.below hW
  have hx' := fun W (hW : Below W0.heap.size W0 W) => hB'.below hW
  clear hS hT hI hI' hB hB' hS0 hT0 hBB hV hV' h h' hn hn'
  go_enter Tryd.func7, Tryd.ntmps7
  go_wp2_with fail
  rw [← hW0]
  clear hW0
  refine cF.mono ?_; rintro r w1 ⟨rfl, b1⟩
  obtain ⟨k0, k1, k2⟩ := hx _ b1
  go_wp2_with fail
  refine (cO _ b1).mono ?_; rintro r w2 ⟨rfl, b2⟩
  obtain ⟨m0, m1, m2⟩ := hx' _ b2
  clear k0 k1 k2
  go_wp2_with fail
  refine (cO' _ b2).mono ?_; rintro r w3 ⟨rfl, b3⟩
  clear m0 m1 m2
  obtain ⟨m0, m1, m2⟩ := hx' _ b3
  obtain ⟨k0, k1, k2⟩ := hx _ b3
  go_wp2_with fail
  have hrow := row2 w3 k' n' t' k n t
  have bl := b3.alloc b3.size (.cells #[.int .i64 k', .int .i64 n', .string t', .int .i64 k, .int .i64 n, .string t] 23)
  refine (cL _ _ bl hrow).mono ?_
  rintro r w4 ⟨bb4, hl, _⟩
  obtain ⟨v4, rfl, hown⟩ := hl (by simp)
  clear hl
  have b4 := bl.trans (bb4.mono bl.size)
  obtain ⟨g, cap, x0, hv4, _, hx0, hc0⟩ := own_cell hown 0 (by simp)
  obtain ⟨g', cap', x1, hv4', _, hx1, hc1⟩ := own_cell hown 1 (by simp)
  obtain ⟨rfl, rfl⟩ : g' = g ∧ cap' = cap := by
    rw [hv4] at hv4'
    simp at hv4'
    exact ⟨hv4'.1.symm, hv4'.2.symm⟩
  subst hv4
  have hx0' : x0 = .iface tu' tx' := by
    rw [← HV'.out]; simpa using hx0.symm
  have hx1' : x1 = .iface tu tx := by
    rw [← HV.out]; simpa using hx1.symm
  subst hx0'; subst hx1'
  clear hrow bl bb4 hown hx0 hx1 hv4'
  clear k0 k1 k2 m0 m1 m2 b1 b2 b3 cL
  obtain ⟨k0, k1, k2⟩ := hx _ b4
  go_wp2_with fail
  refine (cT _ b4 _ (Below.refl _ _)).mono ?_; rintro r w5 ⟨rfl, b5⟩
  go_wp2_with fail
  refine (cP _ b4 _ b5).mono ?_; rintro r w6 ⟨rfl, b6⟩
  have d0 := (b6.cell (lt_of_cell hc0)).trans hc0
  have d1 := (b6.cell (lt_of_cell hc1)).trans hc1
  have b06 := b4.trans (b6.mono b4.size)
  clear k0 k1 k2 b4 b5 b6 hc0 hc1 cF cO cO' cT cP
  obtain ⟨k0, k1, k2⟩ := hx _ b06
  obtain ⟨m0, m1, m2⟩ := hx' _ b06
  clear hx hx' HV HV'
  go_wp2_with fail
  go_quiet (fail)
  go_wp2
  go_ret
  exact ⟨rfl, below_drewN (b0.trans (b06.mono b0.size)) _⟩

/-- What Of answers, whatever the Plain. -/
theorem of_any {I : List Nat} {a : Nat → Addr} (k n : Int) (t : ByteArray) (w : World) (hI : ∀ i ∈ [0, 4, 9], i ∈ I) (hS : Std I a w) (hs : t.size ≤ 281474976710656) :
    ∃ V, Calls Tryd.prog 11 #[pl k n t] w fun r w' => r = .returned (.tuple #[V, errOf a (chk k n t)]) ∧ Below w.heap.size w w' := by
  rcases Nat.eq_zero_or_pos (chk k n t) with h | h
  · exact ⟨_, by rw [h]; exact of_ok k n t w hI hS hs h⟩
  · obtain ⟨e, he⟩ : ∃ e, chk k n t = e + 1 := ⟨chk k n t - 1, by omega⟩
    exact ⟨_, by rw [he]; exact of_no k n t w hI hS hs e he⟩

set_option maxHeartbeats 1000000 in
set_option maxRecDepth 100000 in
theorem equal_bad {I : List Nat} {a : Nat → Addr} (k n : Int) (t : ByteArray) (k' n' : Int) (t' : ByteArray) (w : World) (hI : ∀ i ∈ [0, 3, 4, 9], i ∈ I) (hS : Std I a w) (hT : Strc w) (hs : t.size ≤ 281474976710656) (hs' : t'.size ≤ 281474976710656)
    (h : ¬ (chk k n t = 0 ∧ chk k' n' t' = 0)) :
    Calls Tryd.prog 7 #[pl k n t, pl k' n' t'] w fun r w' => r = .returned (.bool true) ∧ Below w.heap.size w w' := by
  obtain ⟨W0, hW0, hB, hB', b0⟩ := box_new2 w k n t k' n' t'
  have hI' : ∀ i ∈ [0, 4, 9], i ∈ I := fun i hi => hI i (by simp at hi ⊢; omega)
  have hS0 := hS.below b0
  have hT0 := hT.below b0
  have cF := fixed_any W0 hI hS0 hT0
  have cL : ∃ (m e : Nat), ∀ W v (hW : Below W0.heap.size W0 W) (hr : RowP W v [(k', n', t'), (k, n, t)]), Calls Tryd.prog 22 #[v] W fun r w' => r = .returned (.tuple #[.slice none 0 0, .int .i64 m, errV a e]) ∧ Below W.heap.size W w' := by
    by_cases h' : chk k' n' t' = 0
    · obtain ⟨e, he⟩ : ∃ e, chk k n t = e + 1 := ⟨chk k n t - 1, by have : chk k n t ≠ 0 := fun h0 => h ⟨h0, h'⟩; omega⟩
      exact ⟨1, e, fun W v hW hr => (list_gen v _ 1 W hI' (hS0.below hW) hr (by simp; exact ⟨hs', hs⟩) (by simp) (by simp) (fun j q hj hq => by
        match j, hq with
        | 0, hq => obtain rfl : (k', n', t') = q := (by simpa using hq); exact h'
        | j + 1, hq => omega) e (fun q hq => by obtain rfl : (k, n, t) = q := (by simpa using hq); exact he)).mono fun r w' ⟨h1, _, h3⟩ => ⟨h3 (by simp), h1⟩⟩
    · obtain ⟨e, he⟩ : ∃ e, chk k' n' t' = e + 1 := ⟨chk k' n' t' - 1, by omega⟩
      exact ⟨0, e, fun W v hW hr => (list_gen v _ 0 W hI' (hS0.below hW) hr (by simp; exact ⟨hs', hs⟩) (by simp) (by simp) (fun j q hj hq => by omega) e (fun q hq => by obtain rfl : (k', n', t') = q := (by simpa using hq); exact he)).mono fun r w' ⟨h1, _, h3⟩ => ⟨h3 (by simp), h1⟩⟩
  obtain ⟨m, el, cL⟩ := cL
  have hx := fun W (hW : Below W0.heap.size W0 W) => hB.below hW
  have hx' := fun W (hW : Below W0.heap.size W0 W) => hB'.below hW
  by_cases hp : chk k n t = 0
  · obtain ⟨e, he⟩ : ∃ e, chk k' n' t' = e + 1 := ⟨chk k' n' t' - 1, by have : chk k' n' t' ≠ 0 := fun h0 => h ⟨hp, h0⟩; omega⟩
    have cO := fun W (hW : Below W0.heap.size W0 W) => from_below hW (of_ok k n t W hI' (hS0.below hW) hs hp)
    have cO' := fun W (hW : Below W0.heap.size W0 W) => from_below hW (of_no k' n' t' W hI' (hS0.below hW) hs' e he)
    obtain ⟨V, hV⟩ : ∃ V, valOf k n t = V := ⟨_, rfl⟩
    rw [hV] at cO
    clear hS hT hI hI' hB hB' hS0 hT0 hV h hp he
    go_enter Tryd.func7, Tryd.ntmps7
    go_wp2_with fail
    rw [← hW0]
    clear hW0
    refine cF.mono ?_; rintro r w1 ⟨rfl, b1⟩
    obtain ⟨k0, k1, k2⟩ := hx _ b1
    go_wp2_with fail
    refine (cO _ b1).mono ?_; rintro r w2 ⟨rfl, b2⟩
    obtain ⟨m0, m1, m2⟩ := hx' _ b2
    clear k0 k1 k2
    go_wp2_with fail
    refine (cO' _ b2).mono ?_; rintro r w3 ⟨rfl, b3⟩
    clear m0 m1 m2
    obtain ⟨m0, m1, m2⟩ := hx' _ b3
    obtain ⟨k0, k1, k2⟩ := hx _ b3
    go_wp2_with fail
    have hrow := row2 w3 k' n' t' k n t
    have bl := b3.alloc b3.size (.cells #[.int .i64 k', .int .i64 n', .string t', .int .i64 k, .int .i64 n, .string t] 23)
    refine (cL _ _ bl hrow).mono ?_
    rintro r w4 ⟨rfl, b4⟩
    go_wp2
    go_ret
    exact ⟨rfl, b0.trans ((bl.trans (b4.mono bl.size)).mono b0.size)⟩
  · obtain ⟨e, he⟩ : ∃ e, chk k n t = e + 1 := ⟨chk k n t - 1, by omega⟩
    have cO := fun W (hW : Below W0.heap.size W0 W) => from_below hW (of_no k n t W hI' (hS0.below hW) hs e he)
    have cO' : ∀ W (hW : Below W0.heap.size W0 W), ∃ V, Calls Tryd.prog 11 #[pl k' n' t'] W fun r w' => r = .returned (.tuple #[V, errOf a (chk k' n' t')]) ∧ Below W0.heap.size W0 w' := fun W hW => by
      obtain ⟨V, hV⟩ := of_any k' n' t' W hI' (hS0.below hW) hs'
      exact ⟨V, from_below hW hV⟩
    obtain ⟨X, hX⟩ : ∃ X, errOf a (chk k' n' t') = X := ⟨_, rfl⟩
    rw [hX] at cO'
    clear hS hT hI hI' hB hB' hS0 hT0 hX h hp he
    go_enter Tryd.func7, Tryd.ntmps7
    go_wp2_with fail
    rw [← hW0]
    clear hW0
    refine cF.mono ?_; rintro r w1 ⟨rfl, b1⟩
    obtain ⟨k0, k1, k2⟩ := hx _ b1
    go_wp2_with fail
    refine (cO _ b1).mono ?_; rintro r w2 ⟨rfl, b2⟩
    obtain ⟨m0, m1, m2⟩ := hx' _ b2
    clear k0 k1 k2
    obtain ⟨V', cO2⟩ := cO' _ b2
    go_wp2_with fail
    refine cO2.mono ?_; rintro r w3 ⟨rfl, b3⟩
    clear m0 m1 m2 cO' cO2
    obtain ⟨m0, m1, m2⟩ := hx' _ b3
    obtain ⟨k0, k1, k2⟩ := hx _ b3
    go_wp2_with fail
    have hrow := row2 w3 k' n' t' k n t
    have bl := b3.alloc b3.size (.cells #[.int .i64 k', .int .i64 n', .string t', .int .i64 k, .int .i64 n, .string t] 23)
    refine (cL _ _ bl hrow).mono ?_
    rintro r w4 ⟨rfl, b4⟩
    go_wp2
    go_ret
    exact ⟨rfl, b0.trans ((bl.trans (b4.mono bl.size)).mono b0.size)⟩
end Go.Proofs.YtlmibpfikafbdaaDoor
