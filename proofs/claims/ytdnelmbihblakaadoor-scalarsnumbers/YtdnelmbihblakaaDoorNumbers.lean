/- Of all lists and numbers vellumlaw01.ScalarsNumbers answers true and leaves them as they are. -/
import Derived.Test.YtdnelmbihblakaaDoorRow
import Derived.Test.YtdnelmbihblakaaDoorLives
import Derived.Test.YtdnelmbihblakaaDoorReft
import Derived.Laws.AppendOwnNone
namespace Go.Proofs.YtdnelmbihblakaaDoor
open Go Go.RowKit Go.Lib Go.ChangeShapes Go.WideShapes Go.ChangeAt
open Go.WideMaps Go.WideElems
set_option linter.unusedVariables false

/-- How the law's list comes in. -/
def Src (w : World) (v : Value) (zs : List Int) : Prop :=
  v = .slice none 0 0 ∧ zs = [] ∨ ∃ a cap, v = .slice (some a) zs.length cap ∧ ∀ j u, (cells32 zs)[j]? = some u → w.cell? (a.add j) = some u

theorem Src.below {w w' : World} {v : Value} {zs : List Int} (h : Src w v zs) (hb : Below w.heap.size w w') : Src w' v zs := by
  rcases h with h | ⟨a, cap, h1, h2⟩
  · exact Or.inl h
  · exact Or.inr ⟨a, cap, h1, fun j u hu => by rw [hb.cell (lt_of_cell (h2 j u hu))]; exact h2 j u hu⟩

theorem cells32_len (zs : List Int) : (cells32 zs).length = zs.length := by simp [cells32]
theorem cells32_append (a b : List Int) : cells32 (a ++ b) = cells32 a ++ cells32 b := by simp [cells32]
theorem cells32_one (zs : List Int) : ∀ u ∈ cells32 zs, u.oneCell' = true := by
  intro u hu
  simp only [cells32, List.mem_map] at hu
  obtain ⟨z, _, rfl⟩ := hu
  rfl

theorem wl_append_src {ops : Array Oper} {rest : List Oper} {o : Oper} {a : Act} {w : World} {Q : Exit → Act → World → Prop} (hgd : o.guard = none) (s x : Operand)
    (ho : o.op = .call { callee := .builtin .append, args := #[s, x], argTypes := #[30, 30] })
    (B : Nat) (v : Value) (n : Nat) (xs : List Value) (hs : a.eval s = v) (hown : w.ownsRow B 21 1 v n xs) (u : Value) (zs : List Int) (hx : a.eval x = u) (hsrc : Src w u zs)
    (hbytes : (n + zs.length) * 4 ≤ 140737488355328) (hbase : B ≤ w.heap.size)
    (h : ∀ v' w', w'.ownsRow B 21 1 v' (n + zs.length) (xs ++ cells32 zs) → w.grownBy w' v.ownBlock → wpList Tryd.prog ops Q rest (a.put o.dst v') w') : wpList Tryd.prog ops Q (o :: rest) a w := by
  obtain ⟨i0, z0, hi, hz, hz1, hz2, hz3⟩ := info32
  rcases hsrc with ⟨rfl, rfl⟩ | ⟨ad, cap, rfl, hc⟩
  · refine wpList_append_own_none hgd s x 30 ho B 21 i0 1 Tryd.underlying30 hi v n xs hs hown hx (h v w (by simpa [cells32] using hown) ⟨rfl, rfl, rfl, Nat.le_refl _, fun _ _ _ => rfl⟩)
  · exact wpList_append_own w hgd s x 30 ho B 21 i0 z0 1 4 Tryd.underlying30 hi hz hz1 hz2 hz3 (by decide) v n xs hs hown ad zs.length cap (cells32 zs) hx (by rw [cells32_len]; omega) hc (cells32_one zs) (by unfold maxLen; omega) hbytes hbase fun v' w' h1 h2 _ => h v' w' h1 h2

theorem pair_both {ad : Nat → Addr} {w : World} (hS : Std ad w) (high low : Int) : ∃ (x nn : Int) (E : Value),
    (∀ W, Below w.heap.size w W → Calls Tryd.prog 25 #[.int .i32 high, .int .i32 low] W fun e w' => e = .returned (.tuple #[.int .i32 x, E]) ∧ Below w.heap.size w w') ∧
    (∀ W, Below w.heap.size w W → Calls Tryd.prog 26 #[.int .i32 high, .int .i32 low] W fun e w' => e = .returned (.tuple #[.int .i32 x, .int .i64 nn]) ∧ Below w.heap.size w w') ∧
    (∀ W, Below w.heap.size w W → Calls Tryd.prog 12 #[E] W fun e w' => e = .returned (.int .i64 nn) ∧ Below w.heap.size w w') := by
  by_cases h : 55296 ≤ high ∧ high ≤ 56319 ∧ 56320 ≤ low ∧ low ≤ 57343
  · refine ⟨65536 + (high - 55296) * 1024 + (low - 56320), 0, .nilIface, fun W hW => ?_, fun W hW => ?_, fun W hW => ?_⟩
    · exact (pair_ok high low W h.1 h.2.1 h.2.2.1 h.2.2.2).mono fun e w' ⟨h1, h2⟩ => ⟨h1, by rw [h2]; exact hW⟩
    · exact (ref_pair_ok high low W h.1 h.2.1 h.2.2.1 h.2.2.2).mono fun e w' ⟨h1, h2⟩ => ⟨h1, by rw [h2]; exact hW⟩
    · exact (num_nil W).mono fun e w' ⟨h1, h2⟩ => ⟨h1, by rw [h2]; exact hW⟩
  · refine ⟨0, 1, errV ad 0, fun W hW => ?_, fun W hW => ?_, fun W hW => ?_⟩
    · exact from_below hW (pair_no high low W (hS.below hW).sent (by omega))
    · exact (ref_pair_no high low W (by omega)).mono fun e w' ⟨h1, h2⟩ => ⟨h1, by rw [h2]; exact hW⟩
    · exact from_below hW (num_err (hS.below hW).sent 0 (by omega))

/-- A beginning of an owned row reads as its numbers; and what stands behind it. -/
theorem own_head {w : World} {B g cap : Nat} {zs : List Int} {y : Int} (h : w.ownsRow B 21 1 (.slice (some ⟨g, 0, none⟩) (zs.length + 1) cap) (zs.length + 1) (cells32 (zs ++ [y]))) :
    Row32 w (.slice (some ⟨g, 0, none⟩) zs.length cap) zs ∧ w.cell? ⟨g, zs.length, none⟩ = some (.int .i32 y) ∧ zs.length + 1 ≤ cap := by
  rcases h.2 with ⟨h0, _⟩ | ⟨g', cap', cur, h1, h2, h3, h4, h5, h6, h7⟩
  · cases h0
  · simp only [Value.slice.injEq, Option.some.injEq, Addr.mk.injEq, and_true, true_and] at h1
    obtain ⟨rfl, rfl⟩ := h1
    have all : ∀ j, j < zs.length + 1 → w.cell? ⟨g, j, none⟩ = some (.int .i32 ((zs ++ [y]).getD j 0)) := fun j hj => by
      have := congrArg (·[j]?) h7
      simp only [Nat.mul_one, List.getElem?_take, hj, if_true] at this
      have e : (cells32 (zs ++ [y]))[j]? = some (.int .i32 ((zs ++ [y]).getD j 0)) := by
        rw [cells32, List.getElem?_map, List.getD, List.getElem?_eq_getElem (show j < (zs ++ [y]).length by simp; omega)]; rfl
      rw [e] at this
      simp only [World.cell?, h3]
      simpa using this
    refine ⟨⟨some ⟨g, 0, none⟩, cap, rfl, fun j hj => ⟨g, 0, rfl, ?_⟩⟩, ?_, h4⟩
    · rw [Nat.zero_add, all j (by omega)]
      simp [List.getD, List.getElem?_append_left hj]
    · rw [all zs.length (by omega)]
      simp [List.getD]

theorem own_val {w : World} {B : Nat} {e : TypeId} {v : Value} {m : Nat} {xs : List Value} (h : w.ownsRow B e 1 v m xs) (hm : 0 < m) : ∃ g cap, v = .slice (some ⟨g, 0, none⟩) m cap := by
  rcases h.2 with ⟨_, h0⟩ | ⟨g, cap, cur, h1, _⟩
  · omega
  · exact ⟨g, cap, h1⟩

def scalB (z : Int) : Bool := (decide (0 ≤ z) && decide (z < 55296)) || (decide (57344 ≤ z) && decide (z ≤ 1114111))

set_option maxHeartbeats 2000000 in
set_option maxRecDepth 100000 in
theorem numbers_good (w : World) {ad : Nat → Addr} (hS : Std ad w) (v : Value) (zs : List Int) (hv : Row32 w v zs) (hl : zs.length ≤ 35184372087808) (hsrc : Src w v zs) (rs : List Nat) (hzs : zs = ints rs) (hg : scals rs) (high low : Int) :
    Calls Tryd.prog 5 #[v, .int .i32 high, .int .i32 low] w fun e w' => e = .returned (.bool true) ∧ Below w.heap.size w w' := by
  have L := lives_any w hS
  obtain ⟨x, nn, E, cP, cQ, cN⟩ := pair_both hS high low
  have HV : Hid (Row32 w v zs) := hv
  obtain ⟨p, cap, rfl, hc⟩ := hv.ex
  obtain ⟨n, hn⟩ : ∃ n, zs.length = n := ⟨_, rfl⟩
  rw [hn] at hc hsrc hl HV ⊢
  have HN : Hid (zs.length = n) := hn
  clear hv hn
  go_enter Tryd.func5, Tryd.ntmps5
  go_wp2_with fail
  refine L.mono ?_; rintro e w1 ⟨rfl, b1⟩
  have b2 : Below w.heap.size w (w1.alloc (.cells #[] 21)) := b1.alloc b1.size _
  have hsrc2 := hsrc.below b2
  have own0 : (w1.alloc (.cells #[] 21)).ownsRow w.heap.size 21 1 (.slice (some ⟨w1.heap.size, 0, none⟩) 0 0) 0 [] := World.ownsRow_made w1 #[] 0 b1.size (Nat.zero_le _) rfl
  obtain ⟨i0, z0, hi, hz, hz1, hz2, hz3⟩ := info32
  have hZ : Hid (i0.zero = some z0 ∧ i0.size = 1 ∧ i0.bytes = 4 ∧ z0.cells.size = 1) := ⟨hz, hz1, hz2, hz3⟩
  clear hz hz1 hz2 hz3 L hsrc
  go_wp2_with (first
    | (at_builtin; refine wl_append_src rfl (.tmp 19) (.tmp 20) rfl w.heap.size (.slice (some ⟨w1.heap.size, 0, none⟩) 0 0) 0 [] rfl own0 _ zs rfl hsrc2 (by rw [HN.out]; omega) b2.size ?_; intro v1 w2 own1 gr1; have b3 := b2.grown gr1 b2.size (fun k hk => (owns_block own0 k hk).1); have own1' : (w2.alloc (.cells #[.int .i32 7] 21)).ownsRow w.heap.size 21 1 v1 _ _ := owns_below own1 ((Below.refl _ _).alloc (Nat.le_refl _) _))
    | (at_builtin; refine wpList_append_own _ rfl (.tmp 21) (.tmp 22) 30 rfl w.heap.size 21 i0 z0 1 4 Tryd.underlying30 hi hZ.out.1 hZ.out.2.1 hZ.out.2.2.1 hZ.out.2.2.2 (by decide) v1 _ _ rfl own1' ⟨w2.heap.size, 0, none⟩ 1 1 [.int .i32 7] rfl rfl (by intro j u hj; cases j with | zero => (simp at hj; subst hj; simp [Addr.add]) | succ j => simp at hj) (fun u hu => by rw [List.mem_singleton.1 hu]; rfl) (by rw [HN.out]; unfold maxLen; omega) (by rw [HN.out]; omega) (by simp; have := b3.size; omega) ?_; intro v2 w3 own2 gr2 _; obtain ⟨g, cap2, rfl⟩ : ∃ g cap2, v2 = .slice (some ⟨g, 0, none⟩) (n + 1) cap2 := (by rw [← HN.out, ← Nat.zero_add zs.length]; exact own_val own2 (by omega)); have own3 : w3.ownsRow w.heap.size 21 1 (.slice (some ⟨g, 0, none⟩) (zs.length + 1) cap2) (zs.length + 1) (cells32 (zs ++ [7])) := (by rw [cells32_append, HN.out]; simpa [HN.out, cells32] using own2); obtain ⟨hrow, h7, hcap⟩ := own_head own3; have b4 : Below w.heap.size w w3 := (b3.alloc b3.size _).grown gr2 (by have := b3.size; simp; omega) (fun k hk => (owns_block own1 k hk).1); rw [HN.out] at h7 hcap hrow; clear own0 own1 own1' own2 own3 gr1 gr2 b1 b2 b3 hsrc2))
  have ct := text_ok (a := ad) _ rs w3 (by rw [← hzs]; exact hrow) hg (by rw [← ints_length, ← hzs, HN.out]; omega)
  obtain ⟨T, hT⟩ : ∃ T : ByteArray, ⟨(encs rs).toArray⟩ = T := ⟨_, rfl⟩
  rw [hT] at ct
  have HT : Hid (txt rs = T) := hT
  refine ct.mono ?_; rintro e w4 ⟨rfl, k4⟩
  have b5 := b4.trans (k4.mono b4.size)
  have HH : Hid (Row32 w4 (.slice (some ⟨g, 0, none⟩) n cap2) zs ∧ w4.cell? ⟨g, n, none⟩ = some (.int .i32 7) ∧ Row32 w4 (.slice p n cap) zs ∧ Below w.heap.size w w4 ∧ zs = ints rs ∧ scals rs ∧ Std ad w) :=
    ⟨hrow.below k4, by rw [k4.cell (lt_of_cell h7)]; exact h7, HV.out.below b5, b5, hzs, hg, hS⟩
  have hcI : (n : Int) + 1 ≤ cap2 := by omega
  clear hrow h7 b5 b4 k4 hzs hg hS hi hZ ct hT
  go_wp2_with fail
  go_loopw [10, 34] (fun gd i wr => ∃ k : Nat, k ≤ n ∧ i = .int .i64 k ∧ gd = .bool true ∧ Below w4.heap.size w4 wr) (fun _ i _ => n - (RowKit.intOf i).toNat)
  case atStart => exact ⟨0, Nat.zero_le _, rfl, rfl, Below.refl _ _⟩
  case round =>
    obtain ⟨k, hk, rfl, rfl, kb⟩ := hrel
    obtain ⟨hrow, h7, hlist, b5, hzs, hg, hS⟩ := HH.out
    have hrl := HN.out
    have hlr : rs.length = n := by rw [← hrl, hzs, ints_length]
    have b6 := b5.trans (kb.mono b5.size)
    by_cases hlt : k < n
    · obtain ⟨p', cap', hv', hc'⟩ := (hlist.below kb).ex
      obtain ⟨b, off, hp', hcl⟩ := hc' k (by omega)
      simp only [Value.slice.injEq] at hv'
      obtain ⟨rfl, -, rfl⟩ := hv'
      subst hp'
      have hr := hg _ (List.getElem_mem (show k < rs.length by omega))
      rw [hzs, ints_get rs k (by omega)] at hcl
      obtain ⟨R, hR⟩ : ∃ R, rs[k]'(by omega) = R := ⟨_, rfl⟩
      rw [hR] at hcl hr
      have d1 := fun W => ref_scal_yes (R : Int) (by unfold scal at hr; unfold isScal; omega) W
      have d2 := fun W => width_scal hr W
      have d3 := fun W => ref_width_yes hr W
      obtain ⟨K, hK⟩ : ∃ K, (enc R).length = K := ⟨_, rfl⟩
      rw [hK] at d2 d3
      have KB : Hid (Below w4.heap.size w4 wr) := kb
      clear hrow h7 hlist b5 hzs hg hS hrl hlr b6 hc' hR hr hK kb cP cQ cN
      go_wp2_with (first | (go_at_call 22; refine (d1 _).mono ?_; rintro e w' ⟨rfl, rfl⟩) | (go_at_call 23; refine (d2 _).mono ?_; rintro e w' ⟨rfl, rfl⟩) | (go_at_call 24; refine (d3 _).mono ?_; rintro e w' ⟨rfl, hb'⟩))
      go_roundw
      case rel => exact ⟨k + 1, by omega, by go_num, rfl, KB.out.trans (hb'.mono KB.out.size)⟩
      case measure => simp [RowKit.intOf]; omega
    · have c1 := same_any _ _ zs zs wr (hrow.below kb) (hlist.below kb) (by omega) (by omega)
      simp only [decide_true] at c1
      have d7 : ∀ W, Below wr.heap.size wr W → W.cell? ⟨g, n, none⟩ = some (.int .i32 7) := fun W hW => by
        rw [hW.cell (Nat.lt_of_lt_of_le (lt_of_cell h7) kb.size), kb.cell (lt_of_cell h7)]; exact h7
      have dT := fun W (hW : Below w.heap.size w W) => from_below hW (ref_text _ rs W (by rw [← hzs]; exact HV.out.below hW) hg (by omega))
      rw [HT.out] at dT
      clear hrow h7 hlist hzs hg hS hrl hlr b5
      go_wp2_with fail
      refine c1.mono ?_; rintro e w5 ⟨rfl, k5⟩
      have b7 := b6.trans (k5.mono b6.size)
      have h7 := d7 w5 k5
      clear c1 d7 b6 kb k5
      go_wp2_with fail
      refine (dT _ b7).mono ?_; rintro e w6 ⟨rfl, b8⟩
      clear dT b7 h7
      go_wp2_with fail
      refine (cP _ b8).mono ?_; rintro e w7 ⟨rfl, b9⟩
      go_wp2_with fail
      refine (cQ _ b9).mono ?_; rintro e w8 ⟨rfl, b10⟩
      clear cP cQ b8 b9
      go_wp2_with fail
      refine (cN _ b10).mono ?_; rintro e w9 ⟨rfl, b11⟩
      go_wp2
      go_ret
      exact ⟨rfl, b11⟩
set_option maxHeartbeats 2000000 in
set_option maxRecDepth 100000 in
theorem numbers_bad (w : World) {ad : Nat → Addr} (hS : Std ad w) (v : Value) (zs : List Int) (hv : Row32 w v zs) (hl : zs.length ≤ 35184372087808) (hsrc : Src w v zs) (hg : ∃ z ∈ zs, ¬ isScal z) (high low : Int) :
    Calls Tryd.prog 5 #[v, .int .i32 high, .int .i32 low] w fun e w' => e = .returned (.bool true) ∧ Below w.heap.size w w' := by
  have L := lives_any w hS
  obtain ⟨x, nn, E, cP, cQ, cN⟩ := pair_both hS high low
  have HV : Hid (Row32 w v zs) := hv
  obtain ⟨p, cap, rfl, hc⟩ := hv.ex
  obtain ⟨n, hn⟩ : ∃ n, zs.length = n := ⟨_, rfl⟩
  rw [hn] at hc hsrc hl HV ⊢
  have HN : Hid (zs.length = n) := hn
  clear hv hn
  go_enter Tryd.func5, Tryd.ntmps5
  go_wp2_with fail
  refine L.mono ?_; rintro e w1 ⟨rfl, b1⟩
  have b2 : Below w.heap.size w (w1.alloc (.cells #[] 21)) := b1.alloc b1.size _
  have hsrc2 := hsrc.below b2
  have own0 : (w1.alloc (.cells #[] 21)).ownsRow w.heap.size 21 1 (.slice (some ⟨w1.heap.size, 0, none⟩) 0 0) 0 [] := World.ownsRow_made w1 #[] 0 b1.size (Nat.zero_le _) rfl
  obtain ⟨i0, z0, hi, hz, hz1, hz2, hz3⟩ := info32
  have hZ : Hid (i0.zero = some z0 ∧ i0.size = 1 ∧ i0.bytes = 4 ∧ z0.cells.size = 1) := ⟨hz, hz1, hz2, hz3⟩
  clear hz hz1 hz2 hz3 L hsrc
  go_wp2_with (first
    | (at_builtin; refine wl_append_src rfl (.tmp 19) (.tmp 20) rfl w.heap.size (.slice (some ⟨w1.heap.size, 0, none⟩) 0 0) 0 [] rfl own0 _ zs rfl hsrc2 (by rw [HN.out]; omega) b2.size ?_; intro v1 w2 own1 gr1; have b3 := b2.grown gr1 b2.size (fun k hk => (owns_block own0 k hk).1); have own1' : (w2.alloc (.cells #[.int .i32 7] 21)).ownsRow w.heap.size 21 1 v1 _ _ := owns_below own1 ((Below.refl _ _).alloc (Nat.le_refl _) _))
    | (at_builtin; refine wpList_append_own _ rfl (.tmp 21) (.tmp 22) 30 rfl w.heap.size 21 i0 z0 1 4 Tryd.underlying30 hi hZ.out.1 hZ.out.2.1 hZ.out.2.2.1 hZ.out.2.2.2 (by decide) v1 _ _ rfl own1' ⟨w2.heap.size, 0, none⟩ 1 1 [.int .i32 7] rfl rfl (by intro j u hj; cases j with | zero => (simp at hj; subst hj; simp [Addr.add]) | succ j => simp at hj) (fun u hu => by rw [List.mem_singleton.1 hu]; rfl) (by rw [HN.out]; unfold maxLen; omega) (by rw [HN.out]; omega) (by simp; have := b3.size; omega) ?_; intro v2 w3 own2 gr2 _; obtain ⟨g, cap2, rfl⟩ : ∃ g cap2, v2 = .slice (some ⟨g, 0, none⟩) (n + 1) cap2 := (by rw [← HN.out, ← Nat.zero_add zs.length]; exact own_val own2 (by omega)); have own3 : w3.ownsRow w.heap.size 21 1 (.slice (some ⟨g, 0, none⟩) (zs.length + 1) cap2) (zs.length + 1) (cells32 (zs ++ [7])) := (by rw [cells32_append, HN.out]; simpa [HN.out, cells32] using own2); obtain ⟨hrow, h7, hcap⟩ := own_head own3; have b4 : Below w.heap.size w w3 := (b3.alloc b3.size _).grown gr2 (by have := b3.size; simp; omega) (fun k hk => (owns_block own1 k hk).1); rw [HN.out] at h7 hcap hrow; clear own0 own1 own1' own2 own3 gr1 gr2 b1 b2 b3 hsrc2))
  have ct := text_no (a := ad) _ zs w3 (hS.below b4).sent hrow hg (by rw [HN.out]; omega)
  refine ct.mono ?_; rintro e w4 ⟨rfl, k4⟩
  have b5 := b4.trans (k4.mono b4.size)
  have HH : Hid (Row32 w4 (.slice (some ⟨g, 0, none⟩) n cap2) zs ∧ w4.cell? ⟨g, n, none⟩ = some (.int .i32 7) ∧ Row32 w4 (.slice p n cap) zs ∧ Below w.heap.size w w4 ∧ (∃ z ∈ zs, ¬ isScal z) ∧ Std ad w) :=
    ⟨hrow.below k4, by rw [k4.cell (lt_of_cell h7)]; exact h7, HV.out.below b5, b5, hg, hS⟩
  have hcI : (n : Int) + 1 ≤ cap2 := by omega
  clear hrow h7 b5 b4 k4 hg hS hi hZ ct
  go_wp2_with fail
  go_loopw [10, 34] (fun gd i wr => ∃ k : Nat, k ≤ n ∧ i = .int .i64 k ∧ (∃ q : Bool, gd = .bool q ∧ (q = true → ∀ j, j < k → isScal (zs.getD j 0))) ∧ Below w4.heap.size w4 wr) (fun _ i _ => n - (RowKit.intOf i).toNat)
  case atStart => exact ⟨0, Nat.zero_le _, rfl, ⟨true, rfl, fun _ j hj => by omega⟩, Below.refl _ _⟩
  case round =>
    obtain ⟨k, hk, rfl, ⟨q, rfl, hq⟩, kb⟩ := hrel
    obtain ⟨hrow, h7, hlist, b5, hg, hS⟩ := HH.out
    have hrl := HN.out
    have b6 := b5.trans (kb.mono b5.size)
    by_cases hlt : k < n
    · obtain ⟨p', cap', hv', hc'⟩ := (hlist.below kb).ex
      obtain ⟨b, off, hp', hcl⟩ := hc' k (by omega)
      simp only [Value.slice.injEq] at hv'
      obtain ⟨rfl, -, rfl⟩ := hv'
      subst hp'
      have HQ : Hid (q = true → ∀ j, j < k → isScal (zs.getD j 0)) := hq
      have KB : Hid (Below w4.heap.size w4 wr) := kb
      by_cases hsc : isScal (zs.getD k 0)
      · obtain ⟨R, hR⟩ : ∃ R : Nat, zs.getD k 0 = (R : Int) := ⟨(zs.getD k 0).toNat, by unfold isScal at hsc; omega⟩
        have HSC : Hid (isScal (zs.getD k 0)) := hsc
        have hr : scal R := by unfold isScal at hsc; unfold scal; omega
        rw [hR] at hcl hsc
        have d1 := fun W => ref_scal_yes (R : Int) hsc W
        have d2 := fun W => width_scal hr W
        have d3 := fun W => ref_width_yes hr W
        obtain ⟨K, hK⟩ : ∃ K, (enc R).length = K := ⟨_, rfl⟩
        rw [hK] at d2 d3
        clear hrow h7 hlist b5 hg hS hrl b6 hc' hR hr hK kb cP cQ cN hsc hq
        cases q
        all_goals
          go_wp2_with (first | (go_at_call 22; refine (d1 _).mono ?_; rintro e w' ⟨rfl, rfl⟩) | (go_at_call 23; refine (d2 _).mono ?_; rintro e w' ⟨rfl, rfl⟩) | (go_at_call 24; refine (d3 _).mono ?_; rintro e w' ⟨rfl, hb'⟩))
          go_roundw
          case rel =>
            refine ⟨k + 1, by omega, by go_num, ⟨_, rfl, fun h j hj => ?_⟩, KB.out.trans (hb'.mono KB.out.size)⟩
            by_cases hjk : j < k
            · first | exact HQ.out trivial j hjk | (exact absurd h (fun e => by cases e)) | (exfalso; cases h; done)
            · obtain rfl : j = k := by omega
              exact HSC.out
          case measure => simp [RowKit.intOf]; omega
      · obtain ⟨z, hzz⟩ : ∃ z, zs.getD k 0 = z := ⟨_, rfl⟩
        rw [hzz] at hcl hsc
        have d1 := fun W => ref_scal_no z hsc W
        have d2 := fun W => width_not hsc W
        have d3 := fun W => ref_width_no hsc W
        clear hrow h7 hlist b5 hg hS hrl b6 hc' hzz kb cP cQ cN hsc hq
        cases q
        all_goals
          go_wp2_with (first | (go_at_call 22; refine (d1 _).mono ?_; rintro e w' ⟨rfl, rfl⟩) | (go_at_call 23; refine (d2 _).mono ?_; rintro e w' ⟨rfl, rfl⟩) | (go_at_call 24; refine (d3 _).mono ?_; rintro e w' ⟨rfl, hb'⟩))
          go_roundw
          case rel => exact ⟨k + 1, by omega, by go_num, ⟨_, rfl, fun h => absurd h (by simp)⟩, KB.out.trans (hb'.mono KB.out.size)⟩
          case measure => simp [RowKit.intOf]; omega
    · have c1 := same_any _ _ zs zs wr (hrow.below kb) (hlist.below kb) (by omega) (by omega)
      simp only [decide_true] at c1
      have d7 : ∀ W, Below wr.heap.size wr W → W.cell? ⟨g, n, none⟩ = some (.int .i32 7) := fun W hW => by
        rw [hW.cell (Nat.lt_of_lt_of_le (lt_of_cell h7) kb.size), kb.cell (lt_of_cell h7)]; exact h7
      have hqf : q = false := by
        cases q with
        | false => rfl
        | true =>
          exfalso
          obtain ⟨z, hz, hns⟩ := hg
          obtain ⟨j, hj, rfl⟩ := List.getElem_of_mem hz
          have := hq rfl j (by omega)
          rw [List.getD, List.getElem?_eq_getElem hj] at this
          exact hns this
      subst hqf
      have dN := fun W (hW : Below w.heap.size w W) => from_below hW (num_err (hS.below hW).sent 0 (by omega))
      clear hrow h7 hlist hg hS hrl b5 hq
      go_wp2_with fail
      refine c1.mono ?_; rintro e w5 ⟨rfl, k5⟩
      have b7 := b6.trans (k5.mono b6.size)
      have h7 := d7 w5 k5
      clear c1 d7 b6 kb k5
      go_wp2_with fail
      refine (dN _ b7).mono ?_; rintro e w6 ⟨rfl, b8⟩
      clear dN b7 h7
      go_wp2_with fail
      refine (cP _ b8).mono ?_; rintro e w7 ⟨rfl, b9⟩
      go_wp2_with fail
      refine (cQ _ b9).mono ?_; rintro e w8 ⟨rfl, b10⟩
      clear cP cQ b8 b9
      go_wp2_with fail
      refine (cN _ b10).mono ?_; rintro e w9 ⟨rfl, b11⟩
      go_wp2
      go_ret
      exact ⟨rfl, b11⟩

theorem ints_of {zs : List Int} (h : ∀ z ∈ zs, isScal z) : ∃ rs, zs = ints rs ∧ scals rs := by
  refine ⟨zs.map Int.toNat, ?_, ?_⟩
  · rw [ints, List.map_map]
    conv => lhs; rw [← List.map_id zs]
    refine List.map_congr_left fun z hz => ?_
    have := h z hz
    unfold isScal at this
    show z = ((z.toNat : Nat) : Int)
    omega
  · intro r hr
    obtain ⟨z, hz, rfl⟩ := List.mem_map.1 hr
    have := h z hz
    unfold isScal at this
    unfold scal
    omega

theorem numbers_core (w : World) {ad : Nat → Addr} (hS : Std ad w) (v : Value) (zs : List Int) (hv : Row32 w v zs) (hr : ∀ z ∈ zs, -2147483648 ≤ z ∧ z ≤ 2147483647) (hl : zs.length ≤ 35184372087808) (hsrc : Src w v zs)
    (high : Int) (hh : -2147483648 ≤ high ∧ high ≤ 2147483647) (low : Int) (hlo : -2147483648 ≤ low ∧ low ≤ 2147483647) :
    Calls Tryd.prog 5 #[v, .int .i32 high, .int .i32 low] w fun e w' => e = .returned (.bool true) ∧ Below w.heap.size w w' := by
  by_cases hg : ∀ z ∈ zs, isScal z
  · obtain ⟨rs, h1, h2⟩ := ints_of hg
    exact numbers_good w hS v zs hv hl hsrc rs h1 h2 high low
  · refine numbers_bad w hS v zs hv hl hsrc ?_ high low
    refine Classical.byContradiction fun hn => hg fun z hz => Classical.byContradiction fun h => hn ⟨z, hz, h⟩

set_option maxRecDepth 100000 in
theorem scalarsNumbers_contract (H : Type) (enc : TypeId × Value → H) (W : World) (base : Nat) (args : Array Value) (ds gs : List (DataW H)) (before : List MemPlace)
    (hval : ∀ (j : Nat) t v, Tryd.f5.params[j]? = some t → args[j]? = some v → Value.okWide Tryd.prog W .any base t v)
    (hW : DataW.Whole enc Tryd.prog Tryd.f5.params.toList Rows.scalarsNumbersSpec.vars false W args.toList ds gs before)
    (hsz : (DataW.weightsEach Tryd.prog (Tryd.f5.params.toList ++ Rows.scalarsNumbersSpec.plain.varTypes Tryd.prog) (ds ++ gs)).all (· ≤ reachBytes) = true) (hL : laidMetH Tryd.prog laidL W) :
    Calls Tryd.prog 5 args W fun e W' => ∃ v, e = .returned v ∧ Rows.scalarsNumbersSpec.post enc Tryd.prog Tryd.f5 false true false false W args v W' := by
  have hW' := hW
  obtain ⟨p, q, hA0, hV, rfl, _, _⟩ := hW
  have hA : DataW.TrodAll enc Tryd.prog W 0 (fun _ => true) true Tryd.f5.params.toList args.toList ds p := hA0
  rw [Tryd.params5] at hA hval hsz
  obtain ⟨v0, vs0, d0, ds0, p0, q0, hargs, rfl, rfl, h0, r0⟩ := trodAll_cons hA
  obtain ⟨v1, vs1, d1, ds1, p1, q1, rfl, rfl, rfl, h1, r1⟩ := trodAll_cons r0
  obtain ⟨v2, vs2, d2, ds2, p2, q2, rfl, rfl, rfl, h2, r2⟩ := trodAll_cons r1
  obtain ⟨rfl, rfl, rfl⟩ := trodAll_nil r2
  obtain rfl : args = #[v0, v1, v2] := by cases args; simp_all
  obtain ⟨rfl, rfl⟩ := trodVars_none hV
  obtain ⟨z0, hr0, hl0, hrow0, hlt0, hd0, hsrc0⟩ := open_row32 (hval 0 30 v0 rfl rfl) h0 hsz (j := 0) rfl rfl
  obtain ⟨x1, rfl, rfl, rfl, wx1⟩ := open_int Tryd.underlying21 (hval 1 21 v1 rfl rfl) h1
  have hx1 : -2147483648 ≤ x1 ∧ x1 ≤ 2147483647 := by simpa [Lit.wf, IntKind.min, IntKind.max, IntKind.signed, IntKind.bits] using wx1
  obtain ⟨x2, rfl, rfl, rfl, wx2⟩ := open_int Tryd.underlying21 (hval 2 21 v2 rfl rfl) h2
  have hx2 : -2147483648 ≤ x2 ∧ x2 ≤ 2147483647 := by simpa [Lit.wf, IntKind.min, IntKind.max, IntKind.signed, IntKind.bits] using wx2
  obtain ⟨ad, hS⟩ := std_of_laid hL
  refine (numbers_core W hS v0 z0 hrow0 hr0 hl0 hsrc0 x1 hx1 x2 hx2).mono fun e W' ⟨he, hb⟩ => ?_
  subst he
  exact ⟨_, rfl, _, _, _, _, _, _, hW', trodAll_mk1 (shut_bool Tryd.underlying4 _), (trodAll_cons_mk (hb.trod laidOutP (by kernel_rfl) (of_decide_eq_true (by kernel_rfl)) h0 hlt0) (trodAll_cons_mk (shut_int Tryd.underlying21 wx1) (trodAll_cons_mk (shut_int Tryd.underlying21 wx2) trodAll_mk0))), rfl, hb.frame _, fun h => by cases h⟩

theorem scalarsNumbers_reads (os : Os) {H : Type} (enc : TypeId × Value → H) : ∃ x, DataW.whole enc Tryd.prog ((World.laidAll Tryd.prog os laidL).forCall (fun _ _ => 0) ⟨#[], #[.slice none 0 0, .int .i32 0, .int .i32 0], []⟩).memory Tryd.f5.params.toList Rows.scalarsNumbersSpec.vars false #[(.slice none 0 0 : Value), .int .i32 0, .int .i32 0].toList 8 = some x ∧ x.1 = [.nil, .lit (.int .i32 0), .lit (.int .i32 0)] ∧ x.2.1 = [] :=
  ⟨([.nil, .lit (.int .i32 0), .lit (.int .i32 0)], [], []), by kernel_rfl, rfl, rfl⟩

set_option maxRecDepth 100000 in
theorem scalarsNumbers_lifted (os : Os) (started : os.Started) (H : Type) (enc : TypeId × Value → H) (F : Stop.Interp) :
    ReturnsInHanded {} Tryd.checked os 5 .any ((OpenSpec.ofChange Rows.scalarsNumbersSpec).preRow enc Tryd.prog Tryd.f5 Rows.scalarsNumbersRow.domain false laidL) (((OpenSpec.ofChange Rows.scalarsNumbersSpec).at F).post enc Tryd.prog Tryd.f5 false true false false) := by
  obtain ⟨⟨xd, xg, xp⟩, hx, e1, e2⟩ := scalarsNumbers_reads os enc
  simp only at e1 e2
  subst e1; subst e2
  refine returnsInHanded_of_row (C := Tryd.checked) (s := (OpenSpec.ofChange Rows.scalarsNumbersSpec)) own started (by kernel_rfl) Tryd.func5
    ⟨World.laidAll Tryd.prog os laidL, fun _ _ => 0, ⟨#[], #[.slice none 0 0, .int .i32 0, .int .i32 0], []⟩, World.laidAll_os _ _ _, World.shaped_of_ZipB (by kernel_rfl) (by kernel_rfl), rfl, (Input.okWide_of_okWideB (by kernel_rfl)).2,
      OpenSpec.preRow_of_cond 8 hx (by kernel_rfl) (fun k hk => by cases hk) (by kernel_rfl) (wit_met os _), by
        simp only [Assume.holds]
        exact ⟨by simp, by simp, fun _ => Modest.zero, by simp, by simp⟩⟩ ?_
  intro W base args ds gs before hval hW _ hcond hsz hL _ _
  exact scalarsNumbers_contract H enc W base args ds gs before hval hW hsz hL

theorem scalarsNumbers_said : Rows.ScalarsNumbersSaid :=
  OpenClaim.holds_of_cond 5 Tryd.f5 rfl rfl rfl rfl rfl rfl rfl ⟨rfl, rfl, rfl, rfl, rfl⟩ rfl rfl rfl rfl rfl (by kernel_rfl) Tryd.func5 (by kernel_rfl)
    (of_decide_eq_true (by kernel_rfl)) (by unfold Func.isWrapper; first | (rw [if_pos (by decide +kernel)]; kernel_rfl) | (rw [if_neg (by decide +kernel)]; exact ⟨rfl, rfl⟩))
    (fun os started H enc _ F => by rw [OpenClaim.pre_eq_preRow]; exact scalarsNumbers_lifted os started H enc F)

theorem scalarsNumbers_plain (f : FuncId) (fn : Func) (hf : Tryd.pinned.checked.prog.funcNamed Rows.scalarsNumbersRow.func = some f) (hfn : Tryd.pinned.checked.prog.funcs[f]? = some fn) :
    true = Tryd.pinned.checked.prog.looks [] ∧ ∀ (j : Nat) t, fn.params[j]? = some t → Tryd.pinned.checked.prog.wantsStandIn t = false := by
  obtain rfl : f = 5 := Option.some.inj ((show Tryd.prog.funcNamed Rows.scalarsNumbersRow.func = some 5 by kernel_rfl).symm.trans hf) |>.symm
  obtain rfl : fn = Tryd.f5 := (Option.some.inj (Tryd.func5.symm.trans hfn)).symm
  refine ⟨by kernel_rfl, fun j t ht => ?_⟩
  rw [Tryd.params5] at ht
  have hm : t ∈ ([30, 21] : List Nat) := by have := Array.mem_of_getElem? ht; simp at this; simp; omega
  have hall : (([30, 21] : List Nat).all fun u => !Tryd.prog.wantsStandIn u) = true := by kernel_rfl
  exact (show Tryd.prog.wantsStandIn t = false by simpa using List.all_eq_true.1 hall t hm)

theorem scalarsNumbers_card : Rows.ScalarsNumbersCardSaid :=
  Claim7.holds_tied_plain_at .later [] _ _ _ _ scalarsNumbers_said (fun _ h => by cases h) (by kernel_rfl) (fun _ h => by cases h) scalarsNumbers_row_tie rfl ⟨rfl, rfl⟩ (by kernel_rfl) rfl scalarsNumbers_plain (by kernel_rfl)
end Go.Proofs.YtdnelmbihblakaaDoor
