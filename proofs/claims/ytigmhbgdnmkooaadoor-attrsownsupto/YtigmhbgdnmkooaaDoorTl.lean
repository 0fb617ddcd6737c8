/- attrs.tell and attrs.Each: what a patch tells. -/
import Derived.Test.YtigmhbgdnmkooaaDoorGt
namespace Go.Proofs.YtigmhbgdnmkooaaDoor
open Go Go.RowKit Go.Lib
set_option linter.unusedVariables false

def vO (q : A2) : Value := valOf q.2.1 q.2.2.1 q.2.2.2
theorem vO_if (q : A2) : ∃ t x, vO q = .iface t x := by
  unfold vO valOf
  split
  · exact ⟨_, _, rfl⟩
  · split
    · exact ⟨_, _, rfl⟩
    · split <;> exact ⟨_, _, rfl⟩
theorem vO_one (q : A2) : (vO q).oneCell' = true := by obtain ⟨t, x, h⟩ := vO_if q; rw [h]; rfl
def cellsT : List A2 → List Value
  | [] => []
  | q :: r => .string q.1 :: vO q :: cellsT r
theorem cellsT_len : ∀ L : List A2, (cellsT L).length = L.length * 2
  | [] => rfl
  | q :: r => by simp [cellsT, cellsT_len r]; omega
theorem cellsT_append : ∀ L M : List A2, cellsT (L ++ M) = cellsT L ++ cellsT M
  | [], M => rfl
  | q :: r, M => by simp [cellsT, cellsT_append r M]
theorem cellsT_one : ∀ (L : List A2), ∀ u ∈ cellsT L, u.oneCell' = true
  | [], u, h => by cases h
  | q :: r, u, h => by
    simp only [cellsT, List.mem_cons] at h
    rcases h with rfl | rfl | h
    · rfl
    · exact vO_one q
    · exact cellsT_one r u h
theorem cellsT_get : ∀ (L : List A2) (i : Nat) (q : A2), L[i]? = some q → (cellsT L)[i * 2]? = some (.string q.1) ∧ (cellsT L)[i * 2 + 1]? = some (vO q)
  | [], i, q, h => by simp at h
  | p :: r, 0, q, h => by
    obtain rfl : p = q := by simpa using h
    exact ⟨rfl, rfl⟩
  | p :: r, i + 1, q, h => by
    have := cellsT_get r i q (by simpa using h)
    rw [show (i + 1) * 2 = i * 2 + 1 + 1 by omega]
    simpa [cellsT] using this
abbrev OwnT (w : World) (B : Nat) (v : Value) (L : List A2) : Prop := w.ownsRow B 84 2 v L.length (cellsT L)
theorem infoTo : ∃ i z, Tryd.prog.info? 84 = some i ∧ i.zero = some z ∧ i.size = 2 ∧ i.bytes = 32 ∧ z.cells.size = 2 := by
  obtain ⟨i, hi, h⟩ := Option.map_eq_some_iff.1 (show (Tryd.prog.info? 84).map (fun i => (i.zero, i.size, i.bytes)) = some (some (.agg #[.string ⟨#[]⟩, .nilIface]), 2, 32) by kernel_rfl)
  simp only [Prod.mk.injEq] at h
  exact ⟨i, _, hi, h.1, h.2.1, h.2.2, rfl⟩
theorem wpList_make_to (w : World) {ops : Array Oper} {rest : List Oper} {o : Oper} {a : Act} {Q : Exit → Act → World → Prop}
    (hg : o.guard = none) (l c : Operand) (hop : o.op = Op.makeSlice 80 l c) (base : Nat)
    (kl kc : IntKind) (C : Int) (n : Nat) (hl : a.eval l = .int kl 0) (hc : a.eval c = .int kc C) (hC : C = (n : Int)) (b2 : n ≤ 1048577) (b4 : base ≤ w.heap.size)
    (hK : ∀ v w', w'.ownsRow base 84 2 v 0 [] → w.grownBy w' none → wpList Tryd.prog ops Q rest (a.put o.dst v) w') :
    wpList Tryd.prog ops Q (o :: rest) a w := by
  obtain ⟨i, z, hi, hz, hz1, hz2, hz3⟩ := infoTo
  exact wpList_make_own w hg l c _ hop base 84 i z 2 Tryd.underlying80 hi hz hz1 kl kc C n hl hc hC (by rw [hz2]; omega) (by unfold maxLen; omega) b4 fun w' h1 h2 => hK _ w' h1 h2
theorem wpList_append_to {w : World} {ops : Array Oper} {rest : List Oper} {o : Oper} {a : Act} {Q : Exit → Act → World → Prop} (hgd : o.guard = none) (s x : Operand)
    (ho : o.op = .call { callee := .builtin .append, args := #[s, x], argTypes := #[80, 80] })
    (base : Nat) (v : Value) (L : List A2) (hs : a.eval s = v) (hown : OwnT w base v L)
    (b c : Nat) (q : A2) (hx : a.eval x = .slice (some ⟨b, 0, none⟩) 1 c) (h0 : w.cell? ⟨b, 0, none⟩ = some (.string q.1)) (h1 : w.cell? ⟨b, 1, none⟩ = some (vO q))
    (h63 : L.length ≤ 1048676) (hbase : base ≤ w.heap.size)
    (h : ∀ v' w', OwnT w' base v' (L ++ [q]) → w.grownBy w' v.ownBlock → wpList Tryd.prog ops Q rest (a.put o.dst v') w') : wpList Tryd.prog ops Q (o :: rest) a w := by
  obtain ⟨i, z, hi, hz, hz1, hz2, hz3⟩ := infoTo
  refine wpList_append_own _ hgd s x _ ho base 84 i z 2 32 Tryd.underlying80 hi hz hz1 hz2 hz3 (by decide) v L.length (cellsT L) hs hown ⟨b, 0, none⟩ 1 c (cellsT [q]) hx rfl (fun j y hj => ?_) (cellsT_one _) (by unfold maxLen; omega) (by omega) hbase (fun v' w' h1 h2 _ => ?_)
  · rw [Addr.add_lit, Nat.zero_add]
    match j, hj with
    | 0, hj => simp [cellsT] at hj; rw [← hj]; exact h0
    | 1, hj => simp [cellsT] at hj; rw [← hj]; exact h1
    | j + 2, hj => simp [cellsT] at hj
  · refine h v' w' ?_ h2
    show w'.ownsRow _ _ _ _ _ _
    rw [cellsT_append, List.length_append]
    exact h1

theorem tell_bad {I : List Nat} {a : Nat → Addr} (v : Value) (L : List A2) (w : World) (hI : ∀ i ∈ IX, i ∈ I) (hS : Std I a w) (hv : RowA w v L) (hs : Small L) (hl : L.length ≤ 1048576) (e : Nat) (hE : listE true none L = e + 1) :
    Calls Tryd.prog 47 #[v] w fun r w' => r = .returned (.slice none 0 0) ∧ Below w.heap.size w w' := by
  have c := check_gen v L true w hI hS hv hs (by omega)
  rw [hE, errOf_succ] at c
  obtain ⟨p, ca, rfl, _⟩ := hv.val
  clear hv hS hI hs hl hE
  go_enter Tryd.func47, Tryd.ntmps47
  go_wp2_with fail
  refine c.mono ?_; rintro r w2 ⟨rfl, hb2⟩
  go_wp2
  go_ret
  exact ⟨rfl, hb2⟩
set_option maxHeartbeats 2000000 in
set_option maxRecDepth 100000 in
theorem tell_ok {I : List Nat} {a : Nat → Addr} (v : Value) (L : List A2) (w : World) (hI : ∀ i ∈ IX, i ∈ I) (hS : Std I a w) (hv : RowA w v L) (hs : Small L) (hl : L.length ≤ 1048576) (hE : listE true none L = 0) :
    Calls Tryd.prog 47 #[v] w fun r w' => ∃ v', r = .returned v' ∧ OwnT w' w.heap.size v' L ∧ Below w.heap.size w w' := by
  have c := check_gen v L true w hI hS hv hs (by omega)
  rw [hE, errOf_zero] at c
  have hI' : ∀ i ∈ [0, 4, 9], i ∈ I := fun i hi => hI i (by simp at hi ⊢; omega)
  have hP := pat_of hE
  have HV : Hid (∀ W, Below w.heap.size w W → ∀ q ∈ L, Calls Tryd.prog 46 #[pl q.2.1 q.2.2.1 q.2.2.2] W fun r w' => r = .returned (.tuple #[vO q, .nilIface]) ∧ Below W.heap.size W w') := fun W hW q hq => by
    have h1 := hs _ hq
    exact of_ok q.2.1 q.2.2.1 q.2.2.2 W hI' (hS.below hW) h1.2 (pairE_zero.1 (hP.good _ hq)).2
  have HZ : Hid (Small L) := hs
  obtain ⟨n, hn⟩ : ∃ n, L.length = n := ⟨_, rfl⟩
  obtain ⟨p, cap, rfl, hcap, hc⟩ := hv
  rw [hn] at hl hcap c ⊢
  have HN : Hid (L.length = n) := hn
  have HC : Hid _ := hc
  clear hc hS hs hI hn hE hP hI'
  go_enter Tryd.func47, Tryd.ntmps47
  go_wp2_with fail
  refine c.mono ?_; rintro r w2 ⟨rfl, hb2⟩
  clear c
  go_wp2_with (at_make; refine wpList_make_to _ rfl _ _ rfl w.heap.size .i64 .i64 _ n rfl rfl rfl (by omega) hb2.size ?_; intro v0 w1 hown hgr; have hb1 : Below w.heap.size w w1 := hb2.grown hgr hb2.size (fun k hk => by cases hk); clear hgr)
  have HO : Hid (OwnT w1 w.heap.size v0 []) := hown
  clear hown hb2
  go_loopw [3, 5, 6, 7, 16] (fun s _ _ _ i wr => ∃ (k : Nat), k ≤ n ∧ i = .int .i64 k ∧ Below w.heap.size w wr ∧ Hid (OwnT wr w.heap.size s (L.take k))) (fun _ _ _ _ i _ => n - (RowKit.intOf i).toNat)
  case atStart => exact ⟨0, Nat.zero_le _, rfl, hb1, by rw [List.take_zero]; exact HO.out⟩
  case round =>
    clear hb1 HO
    obtain ⟨k, hk, rfl, hbw, H⟩ := hrel
    by_cases hlt : k < n
    · have hltI : (k : Int) < n := by omega
      obtain ⟨q, hq⟩ : ∃ q, L[k]? = some q := ⟨_, List.getElem?_eq_getElem (by rw [HN.out]; exact hlt)⟩
      obtain ⟨b, off, rfl, hp⟩ := HC.out k q hq
      obtain ⟨c0, c1, c2, c3⟩ := hp.below hbw
      have hm := List.mem_of_getElem? hq
      have HD : Hid (L.take (k + 1) = L.take k ++ [q]) := (by rw [List.take_add_one, hq]; rfl : _ = _)
      have hzs := (HZ.out _ hm).1
      have bA : Below wr.heap.size wr (wr.alloc (.cells #[.string q.1, .int .i64 q.2.1, .int .i64 q.2.2.1, .string q.2.2.2] 48)) := (Below.refl _ _).alloc (Nat.le_refl _) _
      have hb1 : Below w.heap.size w (wr.alloc (.cells #[.string q.1, .int .i64 q.2.1, .int .i64 q.2.2.1, .string q.2.2.2] 48)) := hbw.alloc hbw.size _
      have cV := HV.out _ hb1 q hm
      have HOw : Hid (OwnT (wr.alloc (.cells #[.string q.1, .int .i64 q.2.1, .int .i64 q.2.2.1, .string q.2.2.2] 48)) w.heap.size u3 (L.take k)) := owns_below H.out bA
      have bp : Hid (∀ W, Below (wr.alloc (.cells #[.string q.1, .int .i64 q.2.1, .int .i64 q.2.2.1, .string q.2.2.2] 48)).heap.size (wr.alloc (.cells #[.string q.1, .int .i64 q.2.1, .int .i64 q.2.2.1, .string q.2.2.2] 48)) W → PairAt W wr.heap.size 0 q) := fun W hW => PairAt.below (w := wr.alloc (.cells #[.string q.1, .int .i64 q.2.1, .int .i64 q.2.2.1, .string q.2.2.2] 48)) ⟨by simp, by simp, by simp, by simp⟩ hW
      obtain ⟨V, hV⟩ : ∃ V, vO q = V := ⟨_, rfl⟩
      have HVV : Hid (vO q = V ∧ V.oneCell' = true) := ⟨hV, by rw [← hV]; exact vO_one q⟩
      rw [hV] at cV
      have cC := fun W => clone_any q.1 W hzs
      obtain ⟨qk, qx, qn, qt⟩ := q
      simp only at c0 c1 c2 c3 hzs
      clear hzs hq H hp bA hV hm
      go_wp2_with fail
      refine cV.mono ?_; rintro r w3 ⟨rfl, hb3⟩
      have hb4 := hb1.trans (hb3.mono hb1.size)
      obtain ⟨e0, e1, e2, e3⟩ := bp.out _ hb3
      have HO3 : Hid (OwnT w3 w.heap.size u3 (L.take k)) := owns_below HOw.out hb3
      clear cV hb3 hb1 c0 c1 c2 c3 HOw bp e1 e2 e3
      go_wp2_with fail
      refine (cC _).mono ?_; rintro r w4 ⟨rfl, hb5⟩
      have hb6 := hb4.trans (hb5.mono hb4.size)
      have bA := (Below.refl w4.heap.size w4).alloc (Nat.le_refl _) (.cells #[.string qk, V] 84)
      have hb7 := hb6.trans (bA.mono hb6.size)
      have HO4 : Hid (OwnT (w4.alloc (.cells #[.string qk, V] 84)) w.heap.size u3 (L.take k)) := owns_below (owns_below HO3.out hb5) bA
      have hge : Hid (∀ j, u3.ownBlock = some j → w.heap.size ≤ j) := fun j hj => (owns_block HO3.out j hj).1
      have hL1 : (L.take k).length ≤ 1048676 := by rw [List.length_take]; omega
      have hv1 : V.oneCell' = true := HVV.out.2
      obtain ⟨vt, vx, hVi⟩ := vO_if (qk, qx, qn, qt)
      rw [HVV.out.1] at hVi
      subst hVi
      clear e0 hb5 bA cC
      go_wp2_with (at_builtin; refine wpList_append_to rfl (.tmp 28) (.tmp 34) rfl w.heap.size u3 (L.take k) rfl HO4.out w4.heap.size 1 (qk, (qx, qn, qt)) rfl (by simp) (by rw [HVV.out.1]; simp) hL1 hb7.size ?_; intro v' w6 own' gr'; have b8 := hb7.grown gr' hb7.size (fun j hj => hge.out j hj); have HO8 : Hid (OwnT w6 w.heap.size v' (L.take (k + 1))) := (by show OwnT _ _ _ _; rw [HD.out]; exact own'); clear own' gr' hb7 HO4)
      go_roundw
      case rel => exact ⟨k + 1, by omega, by go_num, b8, HO8.out⟩
      case measure => simp [RowKit.intOf]; omega
    · have hltI : ¬ (k : Int) < n := by omega
      have HO2 : Hid (OwnT wr w.heap.size u3 L) := by
        have := H.out
        rw [List.take_of_length_le (by rw [HN.out]; omega)] at this
        exact this
      clear H
      go_wp2
      go_ret
      exact ⟨u3, rfl, HO2.out, hbw⟩
/-- The list that Each's function goes over. -/
def TellAt (w : World) (x : Nat) (B : Nat) (L : List A2) : Prop := ∃ v, w.cell? ⟨x, 0, none⟩ = some v ∧ OwnT w B v L
theorem TellAt.below {w w' : World} {x B : Nat} {L : List A2} (h : TellAt w x B L) (b : Below w.heap.size w w') : TellAt w' x B L := by
  obtain ⟨v, h1, h2⟩ := h
  exact ⟨v, (b.cell (lt_of_cell h1)).trans h1, owns_below h2 b⟩
/-- What is told: all of a patch, nothing of what isn't one. -/
def toldL (L : List A2) : List A2 := if listE true none L = 0 then L else []
theorem tell_any {I : List Nat} {a : Nat → Addr} (v : Value) (L : List A2) (w : World) (hI : ∀ i ∈ IX, i ∈ I) (hS : Std I a w) (hv : RowA w v L) (hs : Small L) (hl : L.length ≤ 1048576) :
    Calls Tryd.prog 47 #[v] w fun r w' => ∃ v', r = .returned v' ∧ OwnT w' w.heap.size v' (toldL L) ∧ Below w.heap.size w w' := by
  unfold toldL
  cases hE : listE true none L with
  | zero => rw [if_pos rfl]; exact tell_ok v L w hI hS hv hs hl hE
  | succ e => rw [if_neg (by omega)]; exact (tell_bad v L w hI hS hv hs hl e hE).mono fun r w' ⟨h1, h2⟩ => ⟨_, h1, ⟨rfl, Or.inl ⟨rfl, rfl⟩⟩, h2⟩
theorem eachA_call {I : List Nat} {a : Nat → Addr} (v : Value) (L : List A2) (w : World) (hI : ∀ i ∈ IX, i ∈ I) (hS : Std I a w) (hv : RowA w v L) (hs : Small L) (hl : L.length ≤ 1048576) :
    Calls Tryd.prog 17 #[v] w fun r w' => ∃ x, r = .returned (.func (.func 48) #[] #[.pointer (some ⟨x, 0, none⟩)]) ∧ TellAt w' x w.heap.size (toldL L) ∧ w.heap.size ≤ x ∧ Below w.heap.size w w' := by
  have c := tell_any v L w hI hS hv hs hl
  clear hI hS hv hs hl
  go_enter Tryd.func17, Tryd.ntmps17
  go_wp2_with fail
  refine c.mono ?_; rintro r w2 ⟨v', rfl, own, b2⟩
  obtain ⟨p', c', rfl⟩ := own_slice own
  have bA := (Below.refl w2.heap.size w2).alloc (Nat.le_refl _) (.cells #[.slice p' (toldL L).length c'] 80)
  have HO : Hid (OwnT (w2.alloc (.cells #[.slice p' (toldL L).length c'] 80)) w.heap.size (.slice p' (toldL L).length c') (toldL L)) := owns_below own bA
  have b3 := b2.trans (bA.mono b2.size)
  have hz : w.heap.size ≤ w2.heap.size := b2.size
  clear own bA c
  go_wp2
  go_ret
  exact ⟨_, rfl, ⟨_, by simp, HO.out⟩, hz, b3⟩
end Go.Proofs.YtigmhbgdnmkooaaDoor
