/- ops: what a piece bears; plain retains; what may follow what. -/
import Derived.Test.YtkgflmbhkbeakabDoorQe
import Derived.Test.YtkgflmbhkbeakabDoorSm
namespace Go.Proofs.YtkgflmbhkbeakabDoor
open Go Go.RowKit Go.Lib
set_option linter.unusedVariables false

theorem pieceQ_1 {o : Op5} {s : Value} (h : o.k = 1) : pieceQ o s = .iface 74 (.agg #[s, .string o.t, .int .i64 (scs o.t.data.toList).length]) := by unfold pieceQ; rw [if_pos h]
theorem pieceQ_2 {o : Op5} {s : Value} (h : o.k = 2) : pieceQ o s = .iface 90 (.agg #[s, .string o.t, valP o.v]) := by unfold pieceQ; rw [if_neg (by omega), if_pos h]
theorem pieceQ_3 {o : Op5} {s : Value} (h : o.k = 3) : pieceQ o s = .iface 77 (.agg #[s, .int .i64 o.c]) := by unfold pieceQ; rw [if_neg (by omega), if_neg (by omega), if_pos h]
theorem pieceQ_4 {o : Op5} {s : Value} (h : o.k = 4) : pieceQ o s = .iface 52 (.agg #[.int .i64 o.c]) := by unfold pieceQ; rw [if_neg (by omega), if_neg (by omega), if_neg (by omega)]
/-- Is an operation a plain retain? -/
def plainR (o : Op5) : Bool := o.k == 3 && o.A.isEmpty
/-- May an operation stand right behind another one in a canonical list? -/
def apartB (x y : Op5) : Bool := if x.k = 4 then y.k == 3 else if x.k ≠ y.k ∨ x.k = 2 then true else !decide (x.A = y.A)
theorem drop_A {o : Op5} (h : opE o = 0) (hk : o.k = 4) : o.A = [] := by
  rcases op_good h with ⟨_, h1⟩ | ⟨_, _, h1⟩ | ⟨_, h2, _⟩
  · omega
  · omega
  · exact h2

set_option maxHeartbeats 1000000 in
theorem borne_any (o : Op5) (s : Value) (w : World) (hR : RN w s o.A) (hg : opE o = 0) (hl : o.A.length ≤ 2097152) :
    Calls Tryd.prog 27 #[pieceQ o s] w fun r w' => ∃ v', r = .returned v' ∧ OwnA w' w.heap.size v' o.A ∧ Below w.heap.size w w' := by
  have HC : Calls Tryd.prog 73 #[.agg #[s]] w fun r w' => ∃ v', r = .returned v' ∧ OwnA w' w.heap.size v' o.A ∧ Below w.heap.size w w' := attributes_any s o.A w hR.row hR.nz hl
  obtain ⟨p, l, cc, rfl⟩ : ∃ p l c, s = .slice p l c := by obtain ⟨p, c, h, _⟩ := hR.row.val; exact ⟨_, _, _, h⟩
  have hd := drop_A hg
  have hk := kinds_of hg
  clear hR hl hg
  obtain ⟨V, hV⟩ : ∃ V, valP o.v = V := ⟨_, rfl⟩
  obtain ⟨nn, hnn⟩ : ∃ x : Int, ((scs o.t.data.toList).length : Int) = x := ⟨_, rfl⟩
  rcases hk with h | h | h | h
  · rw [pieceQ_1 h]
    rw [hnn]
    clear hd h hV hnn
    have a1 := as_i_b
    go_enter Tryd.func27, Tryd.ntmps27
    go_wp2_with fail
    refine HC.mono ?_; rintro r w2 ⟨v', rfl, own, hb2⟩
    have O2 : Hid (OwnA w2 w.heap.size v' o.A) := own
    clear HC own
    go_wp2
    go_ret
    exact ⟨_, rfl, O2.out, hb2⟩
  · rw [pieceQ_2 h]
    rw [hV]
    clear hd h hV hnn
    have a1 := as_e_b
    go_enter Tryd.func27, Tryd.ntmps27
    go_wp2_with fail
    refine HC.mono ?_; rintro r w2 ⟨v', rfl, own, hb2⟩
    have O2 : Hid (OwnA w2 w.heap.size v' o.A) := own
    clear HC own
    go_wp2
    go_ret
    exact ⟨_, rfl, O2.out, hb2⟩
  · rw [pieceQ_3 h]
    clear hd h hV hnn
    have a1 := as_r_b
    go_enter Tryd.func27, Tryd.ntmps27
    go_wp2_with fail
    refine HC.mono ?_; rintro r w2 ⟨v', rfl, own, hb2⟩
    have O2 : Hid (OwnA w2 w.heap.size v' o.A) := own
    clear HC own
    go_wp2
    go_ret
    exact ⟨_, rfl, O2.out, hb2⟩
  · rw [pieceQ_4 h]
    have hA : Hid (o.A = []) := hd h
    clear hd h hV hnn HC
    have a1 := as_d_b
    go_enter Tryd.func27, Tryd.ntmps27
    go_wp2
    go_ret
    exact ⟨.slice none 0 0, rfl, by rw [hA.out]; exact ⟨rfl, Or.inl ⟨rfl, rfl⟩⟩, Below.refl _ _⟩
set_option maxHeartbeats 1000000 in
theorem plainR_any (o : Op5) (s : Value) (w : World) (hR : RN w s o.A) (hg : opE o = 0) (hl : o.A.length ≤ 2097152) :
    Calls Tryd.prog 20 #[pieceQ o s] w fun r w' => r = .returned (.bool (plainR o)) ∧ Below w.heap.size w w' := by
  have HC : ∀ W, Below w.heap.size w W → Calls Tryd.prog 27 #[pieceQ o s] W fun r w' => ∃ v', r = .returned v' ∧ OwnA w' W.heap.size v' o.A ∧ Below W.heap.size W w' := fun W hW => borne_any o s W (hR.below hW) hg hl
  obtain ⟨p, l, cc, rfl⟩ : ∃ p l c, s = .slice p l c := by obtain ⟨p, c, h, _⟩ := hR.row.val; exact ⟨_, _, _, h⟩
  have hk := kinds_of hg
  clear hR hl hg
  obtain ⟨V, hV⟩ : ∃ V, valP o.v = V := ⟨_, rfl⟩
  obtain ⟨nn, hnn⟩ : ∃ x : Int, ((scs o.t.data.toList).length : Int) = x := ⟨_, rfl⟩
  rcases hk with h | h | h | h
  · rw [pieceQ_1 h] at HC ⊢
    rw [hnn] at HC ⊢
    have hp : Hid (plainR o = false) := by show plainR o = false; unfold plainR; rw [h]; rfl
    clear h hV hnn HC
    have a1 := as_i_r
    go_enter Tryd.func20, Tryd.ntmps20
    go_wp2
    go_ret
    exact ⟨by rw [hp.out]; rfl, by go_grown⟩
  · rw [pieceQ_2 h] at HC ⊢
    rw [hV] at HC ⊢
    have hp : Hid (plainR o = false) := by show plainR o = false; unfold plainR; rw [h]; rfl
    clear h hV hnn HC
    have a1 := as_e_r
    go_enter Tryd.func20, Tryd.ntmps20
    go_wp2
    go_ret
    exact ⟨by rw [hp.out]; rfl, by go_grown⟩
  · rw [pieceQ_3 h] at HC ⊢
    obtain ⟨n, hn⟩ : ∃ n, o.A.length = n := ⟨_, rfl⟩
    have hp : Hid (plainR o = decide (n = 0)) := by
      show plainR o = _
      unfold plainR
      rw [h]
      cases e : o.A with
      | nil => rw [e] at hn; simp only [List.length_nil] at hn; subst hn; rfl
      | cons x r => rw [e] at hn; simp only [List.length_cons] at hn; rw [decide_eq_false (by omega)]; rfl
    have HN : Hid (o.A.length = n) := hn
    clear h hV hnn hn
    have a1 := as_r_r
    have c1 := HC _ ((Below.refl w.heap.size w).alloc (Nat.le_refl _) (.cells #[.slice p l cc, .int .i64 o.c] 77))
    have b0 := (Below.refl w.heap.size w).alloc (Nat.le_refl _) (.cells #[.slice p l cc, .int .i64 o.c] 77)
    clear HC
    have hz : ((n : Int) == 0) = decide (n = 0) := by rw [Bool.eq_iff_iff]; simp
    go_enter Tryd.func20, Tryd.ntmps20
    go_wp2_with (go_at_call 27; refine c1.mono ?_; rintro r w2 ⟨v', rfl, own, hb2⟩; obtain ⟨p', c', rfl⟩ := own_slice own; have b2 := b0.trans (hb2.mono b0.size); clear c1 b0 hb2 own; rw [HN.out])
    go_ret
    exact ⟨by rw [hp.out]; rfl, b2⟩
  · rw [pieceQ_4 h] at HC ⊢
    have hp : Hid (plainR o = false) := by show plainR o = false; unfold plainR; rw [h]; rfl
    clear h hV hnn HC
    have a1 := as_d_r
    go_enter Tryd.func20, Tryd.ntmps20
    go_wp2
    go_ret
    exact ⟨by rw [hp.out]; rfl, by go_grown⟩
set_option maxHeartbeats 1000000 in
theorem mayF_any (x y : Op5) (s s' : Value) (w : World) (hR : RN w s x.A) (hR' : RN w s' y.A) (hg : opE x = 0) (hg' : opE y = 0) (hl : x.A.length ≤ 2097152) (hl' : y.A.length ≤ 2097152) :
    Calls Tryd.prog 19 #[pieceQ x s, pieceQ y s'] w fun r w' => r = .returned (.bool (apartB x y)) ∧ Below w.heap.size w w' := by
  have HC : Hid (∀ W, Below w.heap.size w W → Calls Tryd.prog 27 #[pieceQ x s] W fun r w' => ∃ v', r = .returned v' ∧ OwnA w' W.heap.size v' x.A ∧ Below W.heap.size W w') := fun W hW => borne_any x s W (hR.below hW) hg hl
  have HC' : Hid (∀ W, Below w.heap.size w W → Calls Tryd.prog 27 #[pieceQ y s'] W fun r w' => ∃ v', r = .returned v' ∧ OwnA w' W.heap.size v' y.A ∧ Below W.heap.size W w') := fun W hW => borne_any y s' W (hR'.below hW) hg' hl'
  have HS : Hid (∀ W v v', RowA W v x.A → RowA W v' y.A → Calls Tryd.prog 26 #[v, v'] W fun r w' => r = .returned (.bool (decide (x.A = y.A))) ∧ Below W.heap.size W w') := fun W v v' h1 h2 => same_any' v v' x.A y.A W h1 h2 (by omega) (by omega)
  obtain ⟨p, l, cc, rfl⟩ : ∃ p l c, s = .slice p l c := by obtain ⟨p, c, h, _⟩ := hR.row.val; exact ⟨_, _, _, h⟩
  obtain ⟨p', l', cc', rfl⟩ : ∃ p l c, s' = .slice p l c := by obtain ⟨p, c, h, _⟩ := hR'.row.val; exact ⟨_, _, _, h⟩
  have hk := kinds_of hg
  have hk' := kinds_of hg'
  clear hR hl hg hR' hl' hg'
  obtain ⟨V, hV⟩ : ∃ V, valP x.v = V := ⟨_, rfl⟩
  obtain ⟨V', hV'⟩ : ∃ V, valP y.v = V := ⟨_, rfl⟩
  obtain ⟨nn, hnn⟩ : ∃ z : Int, ((scs x.t.data.toList).length : Int) = z := ⟨_, rfl⟩
  obtain ⟨nn', hnn'⟩ : ∃ z : Int, ((scs y.t.data.toList).length : Int) = z := ⟨_, rfl⟩
  obtain ⟨tx, htx⟩ : ∃ z, x.t = z := ⟨_, rfl⟩
  obtain ⟨ty, hty⟩ : ∃ z, y.t = z := ⟨_, rfl⟩
  obtain ⟨cx, hcx⟩ : ∃ z, x.c = z := ⟨_, rfl⟩
  obtain ⟨cy, hcy⟩ : ∃ z, y.c = z := ⟨_, rfl⟩
  rcases hk with h | h | h | h
  · rcases hk' with h' | h' | h' | h'
    · have hv : Hid (apartB x y = (!decide (x.A = y.A))) := by show apartB x y = _; unfold apartB; rw [if_neg (by omega), if_neg (by omega)]
      have cA := HC.out
      have cB := HC'.out
      have cS := HS.out
      rw [pieceQ_1 h, hnn, htx] at cA
      rw [pieceQ_1 h', hnn', hty] at cB
      have cA : Hid _ := cA
      have cB : Hid _ := cB
      have cS : Hid _ := cS
      rw [pieceQ_1 h, hnn, htx, pieceQ_1 h', hnn', hty]
      clear h h' hV hV' hnn hnn' htx hty hcx hcy HC HC' HS
      have a0 := as_i_i
      have a1 := as_i_r
      have a2 := as_i_d
      have b0 : Below w.heap.size w ((w.alloc (.cells #[.slice p' l' cc', .string ty, .int .i64 nn'] 74)).alloc (.cells #[.slice none 0 0, .int .i64 0] 77)) := ((Below.refl w.heap.size w).alloc (Nat.le_refl _) _).alloc (by simp) _
      have c1 := cA.out _ b0
      obtain ⟨sm, hsm⟩ : ∃ z, decide (x.A = y.A) = z := ⟨_, rfl⟩
      rw [hsm] at cS hv
      clear hsm
      go_enter Tryd.func19, Tryd.ntmps19
      go_wp2_with fail
      refine c1.mono ?_; rintro r w2 ⟨v1, rfl, own1, hb2⟩
      obtain ⟨p1, c1', rfl⟩ := own_slice own1
      have b2 := b0.trans (hb2.mono b0.size)
      have c2 := cB.out _ b2
      have R1 : Hid (RowA w2 (.slice p1 x.A.length c1') x.A) := own_rowA own1
      clear c1 own1 hb2 b0
      go_wp2_with fail
      refine c2.mono ?_; rintro r w3 ⟨v2, rfl, own2, hb3⟩
      obtain ⟨p2, c2', rfl⟩ := own_slice own2
      have b3 := b2.trans (hb3.mono b2.size)
      have c3 := cS.out w3 _ _ (R1.out.below hb3) (own_rowA own2)
      clear c2 own2 hb3 b2 R1
      go_wp2_with fail
      refine c3.mono ?_; rintro r w4 ⟨rfl, hb4⟩
      have b4 := b3.trans (hb4.mono b3.size)
      clear c3 b3 hb4
      go_wp2
      go_ret
      exact ⟨by rw [hv.out]; rfl, b4⟩
    · have hv : Hid (apartB x y = (true)) := by show apartB x y = _; unfold apartB; rw [h, h']; rfl
      rw [pieceQ_1 h, hnn, htx, pieceQ_2 h', hV', hty]
      clear h h' hV hV' hnn hnn' htx hty hcx hcy HC HC' HS
      have a0 := as_e_i
      have a1 := as_e_r
      have a2 := as_i_d
      have a3 := as_i_i
      go_enter Tryd.func19, Tryd.ntmps19
      go_wp2
      go_ret
      exact ⟨by rw [hv.out]; rfl, by go_grown⟩
    · have hv : Hid (apartB x y = (true)) := by show apartB x y = _; unfold apartB; rw [h, h']; rfl
      rw [pieceQ_1 h, hnn, htx, pieceQ_3 h', hcy]
      clear h h' hV hV' hnn hnn' htx hty hcx hcy HC HC' HS
      have a0 := as_r_i
      have a1 := as_r_r
      have a2 := as_i_d
      have a3 := as_i_i
      go_enter Tryd.func19, Tryd.ntmps19
      go_wp2
      go_ret
      exact ⟨by rw [hv.out]; rfl, by go_grown⟩
    · have hv : Hid (apartB x y = (true)) := by show apartB x y = _; unfold apartB; rw [h, h']; rfl
      rw [pieceQ_1 h, hnn, htx, pieceQ_4 h', hcy]
      clear h h' hV hV' hnn hnn' htx hty hcx hcy HC HC' HS
      have a0 := as_d_i
      have a1 := as_d_r
      have a2 := as_i_d
      have a3 := as_i_i
      go_enter Tryd.func19, Tryd.ntmps19
      go_wp2
      go_ret
      exact ⟨by rw [hv.out]; rfl, by go_grown⟩
  · rcases hk' with h' | h' | h' | h'
    · have hv : Hid (apartB x y = (true)) := by show apartB x y = _; unfold apartB; rw [h, h']; rfl
      rw [pieceQ_2 h, hV, htx, pieceQ_1 h', hnn', hty]
      clear h h' hV hV' hnn hnn' htx hty hcx hcy HC HC' HS
      have a0 := as_i_i
      have a1 := as_i_r
      have a2 := as_e_d
      have a3 := as_e_i
      have a4 := as_e_r
      go_enter Tryd.func19, Tryd.ntmps19
      go_wp2
      go_ret
      exact ⟨by rw [hv.out]; rfl, by go_grown⟩
    · have hv : Hid (apartB x y = (true)) := by show apartB x y = _; unfold apartB; rw [h, h']; rfl
      rw [pieceQ_2 h, hV, htx, pieceQ_2 h', hV', hty]
      clear h h' hV hV' hnn hnn' htx hty hcx hcy HC HC' HS
      have a0 := as_e_i
      have a1 := as_e_r
      have a2 := as_e_d
      go_enter Tryd.func19, Tryd.ntmps19
      go_wp2
      go_ret
      exact ⟨by rw [hv.out]; rfl, by go_grown⟩
    · have hv : Hid (apartB x y = (true)) := by show apartB x y = _; unfold apartB; rw [h, h']; rfl
      rw [pieceQ_2 h, hV, htx, pieceQ_3 h', hcy]
      clear h h' hV hV' hnn hnn' htx hty hcx hcy HC HC' HS
      have a0 := as_r_i
      have a1 := as_r_r
      have a2 := as_e_d
      have a3 := as_e_i
      have a4 := as_e_r
      go_enter Tryd.func19, Tryd.ntmps19
      go_wp2
      go_ret
      exact ⟨by rw [hv.out]; rfl, by go_grown⟩
    · have hv : Hid (apartB x y = (true)) := by show apartB x y = _; unfold apartB; rw [h, h']; rfl
      rw [pieceQ_2 h, hV, htx, pieceQ_4 h', hcy]
      clear h h' hV hV' hnn hnn' htx hty hcx hcy HC HC' HS
      have a0 := as_d_i
      have a1 := as_d_r
      have a2 := as_e_d
      have a3 := as_e_i
      have a4 := as_e_r
      go_enter Tryd.func19, Tryd.ntmps19
      go_wp2
      go_ret
      exact ⟨by rw [hv.out]; rfl, by go_grown⟩
  · rcases hk' with h' | h' | h' | h'
    · have hv : Hid (apartB x y = (true)) := by show apartB x y = _; unfold apartB; rw [h, h']; rfl
      rw [pieceQ_3 h, hcx, pieceQ_1 h', hnn', hty]
      clear h h' hV hV' hnn hnn' htx hty hcx hcy HC HC' HS
      have a0 := as_i_i
      have a1 := as_i_r
      have a2 := as_r_d
      have a3 := as_r_i
      have a4 := as_r_r
      go_enter Tryd.func19, Tryd.ntmps19
      go_wp2
      go_ret
      exact ⟨by rw [hv.out]; rfl, by go_grown⟩
    · have hv : Hid (apartB x y = (true)) := by show apartB x y = _; unfold apartB; rw [h, h']; rfl
      rw [pieceQ_3 h, hcx, pieceQ_2 h', hV', hty]
      clear h h' hV hV' hnn hnn' htx hty hcx hcy HC HC' HS
      have a0 := as_e_i
      have a1 := as_e_r
      have a2 := as_r_d
      have a3 := as_r_i
      have a4 := as_r_r
      go_enter Tryd.func19, Tryd.ntmps19
      go_wp2
      go_ret
      exact ⟨by rw [hv.out]; rfl, by go_grown⟩
    · have hv : Hid (apartB x y = (!decide (x.A = y.A))) := by show apartB x y = _; unfold apartB; rw [if_neg (by omega), if_neg (by omega)]
      have cA := HC.out
      have cB := HC'.out
      have cS := HS.out
      rw [pieceQ_3 h, hcx] at cA
      rw [pieceQ_3 h', hcy] at cB
      have cA : Hid _ := cA
      have cB : Hid _ := cB
      have cS : Hid _ := cS
      rw [pieceQ_3 h, hcx, pieceQ_3 h', hcy]
      clear h h' hV hV' hnn hnn' htx hty hcx hcy HC HC' HS
      have a0 := as_r_i
      have a1 := as_r_r
      have a2 := as_r_d
      have b0 : Below w.heap.size w ((w.alloc (.cells #[.slice none 0 0, .string ⟨#[]⟩, .int .i64 0] 74)).alloc (.cells #[.slice p' l' cc', .int .i64 cy] 77)) := ((Below.refl w.heap.size w).alloc (Nat.le_refl _) _).alloc (by simp) _
      have c1 := cA.out _ b0
      obtain ⟨sm, hsm⟩ : ∃ z, decide (x.A = y.A) = z := ⟨_, rfl⟩
      rw [hsm] at cS hv
      clear hsm
      go_enter Tryd.func19, Tryd.ntmps19
      go_wp2_with fail
      refine c1.mono ?_; rintro r w2 ⟨v1, rfl, own1, hb2⟩
      obtain ⟨p1, c1', rfl⟩ := own_slice own1
      have b2 := b0.trans (hb2.mono b0.size)
      have c2 := cB.out _ b2
      have R1 : Hid (RowA w2 (.slice p1 x.A.length c1') x.A) := own_rowA own1
      clear c1 own1 hb2 b0
      go_wp2_with fail
      refine c2.mono ?_; rintro r w3 ⟨v2, rfl, own2, hb3⟩
      obtain ⟨p2, c2', rfl⟩ := own_slice own2
      have b3 := b2.trans (hb3.mono b2.size)
      have c3 := cS.out w3 _ _ (R1.out.below hb3) (own_rowA own2)
      clear c2 own2 hb3 b2 R1
      go_wp2_with fail
      refine c3.mono ?_; rintro r w4 ⟨rfl, hb4⟩
      have b4 := b3.trans (hb4.mono b3.size)
      clear c3 b3 hb4
      go_wp2
      go_ret
      exact ⟨by rw [hv.out]; rfl, b4⟩
    · have hv : Hid (apartB x y = (true)) := by show apartB x y = _; unfold apartB; rw [h, h']; rfl
      rw [pieceQ_3 h, hcx, pieceQ_4 h', hcy]
      clear h h' hV hV' hnn hnn' htx hty hcx hcy HC HC' HS
      have a0 := as_d_i
      have a1 := as_d_r
      have a2 := as_r_d
      have a3 := as_r_i
      have a4 := as_r_r
      go_enter Tryd.func19, Tryd.ntmps19
      go_wp2
      go_ret
      exact ⟨by rw [hv.out]; rfl, by go_grown⟩
  · rcases hk' with h' | h' | h' | h'
    · have hv : Hid (apartB x y = (false)) := by show apartB x y = _; unfold apartB; rw [h, h']; rfl
      rw [pieceQ_4 h, hcx, pieceQ_1 h', hnn', hty]
      clear h h' hV hV' hnn hnn' htx hty hcx hcy HC HC' HS
      have a0 := as_i_i
      have a1 := as_i_r
      have a2 := as_d_d
      go_enter Tryd.func19, Tryd.ntmps19
      go_wp2
      go_ret
      exact ⟨by rw [hv.out]; rfl, by go_grown⟩
    · have hv : Hid (apartB x y = (false)) := by show apartB x y = _; unfold apartB; rw [h, h']; rfl
      rw [pieceQ_4 h, hcx, pieceQ_2 h', hV', hty]
      clear h h' hV hV' hnn hnn' htx hty hcx hcy HC HC' HS
      have a0 := as_e_i
      have a1 := as_e_r
      have a2 := as_d_d
      go_enter Tryd.func19, Tryd.ntmps19
      go_wp2
      go_ret
      exact ⟨by rw [hv.out]; rfl, by go_grown⟩
    · have hv : Hid (apartB x y = (true)) := by show apartB x y = _; unfold apartB; rw [h, h']; rfl
      rw [pieceQ_4 h, hcx, pieceQ_3 h', hcy]
      clear h h' hV hV' hnn hnn' htx hty hcx hcy HC HC' HS
      have a0 := as_r_i
      have a1 := as_r_r
      have a2 := as_d_d
      go_enter Tryd.func19, Tryd.ntmps19
      go_wp2
      go_ret
      exact ⟨by rw [hv.out]; rfl, by go_grown⟩
    · have hv : Hid (apartB x y = (false)) := by show apartB x y = _; unfold apartB; rw [h, h']; rfl
      rw [pieceQ_4 h, hcx, pieceQ_4 h', hcy]
      clear h h' hV hV' hnn hnn' htx hty hcx hcy HC HC' HS
      have a0 := as_d_i
      have a1 := as_d_r
      have a2 := as_d_d
      go_enter Tryd.func19, Tryd.ntmps19
      go_wp2
      go_ret
      exact ⟨by rw [hv.out]; rfl, by go_grown⟩
end Go.Proofs.YtkgflmbhkbeakabDoor
