/- ops: lengths of pieces, their sums; ops.Lengths. -/
import Derived.Test.YtkgflmbhkbeakaaDoorQd
import Derived.Stop.Asserts
namespace Go.Proofs.YtkgflmbhkbeakaaDoor
open Go Go.RowKit Go.Lib
set_option linter.unusedVariables false

def baseO (o : Op5) : Int := if o.k = 3 ∨ o.k = 4 then len5 o else 0
def resO (o : Op5) : Int := if o.k = 4 then 0 else len5 o
/-- The sums of lengths, asked at each operation. -/
def sumL : Int → Int → List Op5 → Int × Int × Nat
  | b, r, [] => (b, r, 0)
  | b, r, o :: L => if 1099511627776 < b + baseO o ∨ 1099511627776 < r + resO o then (0, 0, 11) else sumL (b + baseO o) (r + resO o) L
/-- What Lengths answers. -/
def lensL (E : List Op5) : Int × Int × Nat := if (badP E).2 ≠ 0 then (0, 0, (badP E).2) else sumL 0 0 E
theorem len5_range {o : Op5} (h : opE o = 0) (f : Fit o) : 0 ≤ len5 o ∧ len5 o ≤ 1099511627776 := by
  unfold len5
  rcases op_good h with ⟨hi, hk⟩ | ⟨hc, hl, hk⟩ | ⟨hc, hA, hk⟩
  · rw [if_pos hk]
    unfold lenO
    split
    · have := (valid_text o.t hi.utf).2.2
      have := f.t
      omega
    · omega
  · rw [if_neg (by omega)]
    have := hc.lo
    have := hc.hi
    omega
  · rw [if_neg (by omega)]
    have := hc.lo
    have := hc.hi
    omega
theorem base_range {o : Op5} (h : opE o = 0) (f : Fit o) : 0 ≤ baseO o ∧ baseO o ≤ 1099511627776 := by
  have := len5_range h f
  unfold baseO
  split <;> omega
theorem res_range {o : Op5} (h : opE o = 0) (f : Fit o) : 0 ≤ resO o ∧ resO o ≤ 1099511627776 := by
  have := len5_range h f
  unfold resO
  split <;> omega
theorem kinds_of {o : Op5} (h : opE o = 0) : o.k = 1 ∨ o.k = 2 ∨ o.k = 3 ∨ o.k = 4 := by
  rcases op_good h with ⟨_, hk⟩ | ⟨_, _, hk⟩ | ⟨_, _, hk⟩ <;> omega

theorem as_i_r (v : Value) (W : World) : (Instr.typeAssert (.iface 91 v) 81 96 true).run Tryd.prog W = .ok (.tuple #[.agg #[.slice none 0 0, .int .i64 0], .bool false]) W := by kernel_rfl
theorem as_e_r (v : Value) (W : World) : (Instr.typeAssert (.iface 93 v) 81 96 true).run Tryd.prog W = .ok (.tuple #[.agg #[.slice none 0 0, .int .i64 0], .bool false]) W := by kernel_rfl
theorem as_d_r (v : Value) (W : World) : (Instr.typeAssert (.iface 98 v) 81 96 true).run Tryd.prog W = .ok (.tuple #[.agg #[.slice none 0 0, .int .i64 0], .bool false]) W := by kernel_rfl
theorem as_r_r (v : Value) (W : World) : (Instr.typeAssert (.iface 96 v) 81 96 true).run Tryd.prog W = .ok (.tuple #[v, .bool true]) W := by kernel_rfl
theorem as_i_d (v : Value) (W : World) : (Instr.typeAssert (.iface 91 v) 81 98 true).run Tryd.prog W = .ok (.tuple #[.agg #[.int .i64 0], .bool false]) W := by kernel_rfl
theorem as_e_d (v : Value) (W : World) : (Instr.typeAssert (.iface 93 v) 81 98 true).run Tryd.prog W = .ok (.tuple #[.agg #[.int .i64 0], .bool false]) W := by kernel_rfl
theorem as_r_d (v : Value) (W : World) : (Instr.typeAssert (.iface 96 v) 81 98 true).run Tryd.prog W = .ok (.tuple #[.agg #[.int .i64 0], .bool false]) W := by kernel_rfl
theorem as_d_d (v : Value) (W : World) : (Instr.typeAssert (.iface 98 v) 81 98 true).run Tryd.prog W = .ok (.tuple #[v, .bool true]) W := by kernel_rfl
theorem as_r_i (v : Value) (W : World) : (Instr.typeAssert (.iface 96 v) 81 91 true).run Tryd.prog W = .ok (.tuple #[.agg #[.slice none 0 0, .string ⟨#[]⟩, .int .i64 0], .bool false]) W := by kernel_rfl
theorem as_d_i (v : Value) (W : World) : (Instr.typeAssert (.iface 98 v) 81 91 true).run Tryd.prog W = .ok (.tuple #[.agg #[.slice none 0 0, .string ⟨#[]⟩, .int .i64 0], .bool false]) W := by kernel_rfl
theorem as_i_b (v : Value) (W : World) : (Instr.typeAssert (.iface 91 v) 81 86 true).run Tryd.prog W = .ok (.tuple #[.iface 91 v, .bool true]) W := by kernel_rfl
theorem as_e_b (v : Value) (W : World) : (Instr.typeAssert (.iface 93 v) 81 86 true).run Tryd.prog W = .ok (.tuple #[.iface 93 v, .bool true]) W := by kernel_rfl
theorem as_r_b (v : Value) (W : World) : (Instr.typeAssert (.iface 96 v) 81 86 true).run Tryd.prog W = .ok (.tuple #[.iface 96 v, .bool true]) W := by kernel_rfl
theorem as_d_b (v : Value) (W : World) : (Instr.typeAssert (.iface 98 v) 81 86 true).run Tryd.prog W = .ok (.tuple #[.nilIface, .bool false]) W :=
  run_typeAssert_lacksB Tryd.underlying86 (by kernel_rfl) (by kernel_rfl) v _ W

theorem rlen_any (s : Value) (n : Int) (w : World) : Calls Tryd.prog 151 #[.agg #[s, .int .i64 n]] w fun e w' => e = .returned (.int .i64 n) ∧ Below w.heap.size w w' := by
  go_enter Tryd.func151, Tryd.ntmps151
  go_wp2
  go_ret
  exact ⟨rfl, (Below.refl _ _).alloc (Nat.le_refl _) _⟩
theorem dlen_any (n : Int) (w : World) : Calls Tryd.prog 153 #[.agg #[.int .i64 n]] w fun e w' => e = .returned (.int .i64 n) ∧ Below w.heap.size w w' := by
  go_enter Tryd.func153, Tryd.ntmps153
  go_wp2
  go_ret
  exact ⟨rfl, (Below.refl _ _).alloc (Nat.le_refl _) _⟩

set_option maxHeartbeats 1000000 in
theorem lensOf_any (o : Op5) (s : Value) (w : World) (hk : o.k = 1 ∨ o.k = 2 ∨ o.k = 3 ∨ o.k = 4) :
    Calls Tryd.prog 105 #[pieceQ o s] w fun r w' => r = .returned (.tuple #[.int .i64 (baseO o), .int .i64 (resO o)]) ∧ Below w.heap.size w w' := by
  unfold pieceQ baseO resO len5 lenO
  obtain ⟨V, hV⟩ : ∃ V, valP o.v = V := ⟨_, rfl⟩
  rw [hV]
  clear hV
  obtain ⟨k, t, v, c, A⟩ := o
  simp only at hk ⊢
  rcases hk with rfl | rfl | rfl | rfl
  · simp only [show ¬ ((1 : Int) = 3) by omega, show ¬ ((1 : Int) = 4) by omega, show ¬ ((1 : Int) = 2) by omega, if_true, if_false, or_false]
    have a1 := as_i_r
    have a2 := as_i_d
    go_enter Tryd.func105, Tryd.ntmps105
    go_wp2_with fail
    refine (ilen_any _ _ _ _).mono ?_; rintro r w3 ⟨rfl, hb3⟩
    go_wp2
    go_ret2
    exact ⟨rfl, hb3⟩
  · simp only [show ¬ ((2 : Int) = 3) by omega, show ¬ ((2 : Int) = 4) by omega, show ¬ ((2 : Int) = 1) by omega, if_true, if_false, or_false, or_true]
    have a1 := as_e_r
    have a2 := as_e_d
    go_enter Tryd.func105, Tryd.ntmps105
    go_wp2_with fail
    refine (elen_any _ _ _ _).mono ?_; rintro r w3 ⟨rfl, hb3⟩
    go_wp2
    go_ret2
    exact ⟨rfl, hb3⟩
  · simp only [show ¬ ((3 : Int) = 1) by omega, show ¬ ((3 : Int) = 2) by omega, show ¬ ((3 : Int) = 4) by omega, if_true, if_false, or_false]
    have a1 := as_r_r
    go_enter Tryd.func105, Tryd.ntmps105
    go_wp2_with fail
    refine (rlen_any _ _ _).mono ?_; rintro r w3 ⟨rfl, hb3⟩
    go_wp2_with fail
    refine (rlen_any _ _ _).mono ?_; rintro r w4 ⟨rfl, hb4⟩
    have b4 := hb3.trans (hb4.mono hb3.size)
    go_wp2
    go_ret2
    exact ⟨rfl, b4⟩
  · simp only [show ¬ ((4 : Int) = 1) by omega, show ¬ ((4 : Int) = 2) by omega, show ¬ ((4 : Int) = 3) by omega, if_true, if_false, or_false, or_true]
    have a1 := as_d_r
    have a2 := as_d_d
    go_enter Tryd.func105, Tryd.ntmps105
    go_wp2_with fail
    refine (dlen_any _ _).mono ?_; rintro r w3 ⟨rfl, hb3⟩
    go_wp2
    go_ret2
    exact ⟨rfl, hb3⟩

theorem oneI {P : List Value} {w : World} {B : Nat} {E : List Op5} (h : PieD w B P E) {k : Nat} {x : Value} (hx : P[k]? = some x) : ∃ e s, E[k]? = some e ∧ x = pieceQ e s ∧ OwnA w B s e.A := by
  obtain ⟨e, he, s, h1, h2⟩ := forall2_get h k x hx
  exact ⟨e, s, he, h1, h2⟩
set_option maxHeartbeats 2000000 in
set_option maxRecDepth 100000 in
theorem sum_any {I : List Nat} {a : Nat → Addr} (v : Value) (P : List Value) (E : List Op5) (B : Nat) (w : World) (hI : ∀ i ∈ IxO, i ∈ I) (hS : Std I a w) (hv : OwnI w B v P) (hp : PieD w B P E) (hg : ∀ o ∈ E, opE o = 0) (hF : FitL E) (hl : E.length ≤ 1048576) :
    Calls Tryd.prog 84 #[v] w fun r w' => r = .returned (.tuple #[.int .i64 (sumL 0 0 E).1, .int .i64 (sumL 0 0 E).2.1, errOf a (sumL 0 0 E).2.2]) ∧ Below w.heap.size w w' := by
  obtain ⟨n, hn⟩ : ∃ n, P.length = n := ⟨_, rfl⟩
  have hPE := forall2_len hp
  obtain ⟨p, cap, rfl⟩ := own_slice hv
  rw [hn] at hv ⊢
  have hl : n ≤ 1048576 := by omega
  have HV : Hid (∀ k, k < n → ∃ ga e s, p = some ⟨ga, 0, none⟩ ∧ E[k]? = some e ∧ w.cell? ⟨ga, k, none⟩ = some (pieceQ e s) ∧ opE e = 0 ∧ Fit e) := fun k hk => by
    obtain ⟨g, c, x, hv', hB, hx, hc⟩ := own_cell hv k (by omega)
    obtain ⟨e, s, he, rfl, _⟩ := oneI hp hx
    simp only [Value.slice.injEq] at hv'
    exact ⟨g, e, s, hv'.1, he, hc, hg e (List.mem_of_getElem? he), hF e (List.mem_of_getElem? he)⟩
  have HN : Hid (E.length = n) := by show _ = _; omega
  have HG : Hid (∀ W, Below w.heap.size w W → W.cell? ⟨10, 0, none⟩ = some (errV a 10)) := fun W hW => (hS.below hW).er.cell 10 (hI 10 (by simp))
  obtain ⟨b9, r9, e9, h9⟩ : ∃ b r e, sumL 0 0 E = (b, r, e) := ⟨_, _, _, rfl⟩
  rw [h9]
  have H9 : Hid (sumL 0 0 (E.drop 0) = (b9, r9, e9)) := by show _ = _; rw [List.drop_zero]; exact h9
  clear hS hv hp hg hF hn hPE h9
  go_enter Tryd.func84, Tryd.ntmps84
  go_wp2
  go_loopw [2, 3, 11] (fun bs rs i wr => ∃ (k : Nat) (b r : Int), k ≤ n ∧ i = .int .i64 k ∧ bs = .int .i64 b ∧ rs = .int .i64 r ∧ 0 ≤ b ∧ b ≤ 1099511627776 ∧ 0 ≤ r ∧ r ≤ 1099511627776 ∧ Hid (sumL b r (E.drop k) = (b9, r9, e9)) ∧ Below w.heap.size w wr) (fun _ _ i _ => n - (RowKit.intOf i).toNat)
  case atStart => exact ⟨0, 0, 0, Nat.zero_le _, rfl, rfl, rfl, by omega, by omega, by omega, by omega, H9, Below.refl _ _⟩
  case round =>
    clear H9
    obtain ⟨k, b, r, hk, rfl, rfl, rfl, h1, h2, h3, h4, HS, hbw⟩ := hrel
    by_cases hlt : k < n
    · have hltI : (k : Int) < n := by omega
      obtain ⟨ga, e, s, rfl, he, hc, hge, hfe⟩ := HV.out k hlt
      have c0 := (hbw.cell (lt_of_cell hc)).trans hc
      have cL := fun W => lensOf_any e s W (kinds_of hge)
      have hb1 := base_range hge hfe
      have hr1 := res_range hge hfe
      obtain ⟨bo, hbo⟩ : ∃ x, baseO e = x := ⟨_, rfl⟩
      obtain ⟨ro, hro⟩ : ∃ x, resO e = x := ⟨_, rfl⟩
      obtain ⟨u, x, hux⟩ := pieceQ_if e s
      have hdr : E.drop k = e :: E.drop (k + 1) := by
        have hlt' : k < E.length := (List.getElem?_eq_some_iff.1 he).1
        rw [List.drop_eq_getElem_cons hlt']
        congr 1
        rw [List.getElem?_eq_getElem hlt'] at he
        exact Option.some.inj he
      have HS' := HS.out
      rw [hdr, sumL, hbo, hro] at HS'
      rw [hux] at c0 cL
      rw [hbo, hro] at cL
      rw [hbo] at hb1
      rw [hro] at hr1
      obtain ⟨hb1, hb2⟩ := hb1
      obtain ⟨hr1, hr2⟩ := hr1
      by_cases hov : 1099511627776 < b + bo ∨ 1099511627776 < r + ro
      · rw [if_pos hov] at HS'
        simp only [Prod.mk.injEq] at HS'
        obtain ⟨rfl, rfl, rfl⟩ := HS'
        clear hdr he hc hge hfe hbo hro hux HS
        by_cases hov1 : 1099511627776 < b + bo
        · have hd1 : decide (1099511627776 < b + bo) = true := decide_eq_true hov1
          go_wp2_with fail
          refine (cL _).mono ?_; rintro r1 w5 ⟨rfl, hb5⟩
          have b5 := hbw.trans (hb5.mono hbw.size)
          have gL := HG.out _ b5
          clear cL c0 hb5 hov
          go_wp2
          go_quiet (fail)
          go_wp2
          go_ret3
          exact ⟨rfl, below_drewN b5 _⟩
        · have hov2 : 1099511627776 < r + ro := by rcases hov with h | h; exact absurd h hov1; exact h
          have hd1 : decide (1099511627776 < b + bo) = false := decide_eq_false hov1
          have hd2 : decide (1099511627776 < r + ro) = true := decide_eq_true hov2
          go_wp2_with fail
          refine (cL _).mono ?_; rintro r1 w5 ⟨rfl, hb5⟩
          have b5 := hbw.trans (hb5.mono hbw.size)
          have gL := HG.out _ b5
          clear cL c0 hb5 hov
          go_wp2
          go_quiet (fail)
          go_wp2
          go_ret3
          exact ⟨rfl, below_drewN b5 _⟩
      · rw [if_neg hov] at HS'
        have HS2 : Hid (sumL (b + bo) (r + ro) (E.drop (k + 1)) = (b9, r9, e9)) := HS'
        have hov1 : ¬ 1099511627776 < b + bo := fun h => hov (Or.inl h)
        have hov2 : ¬ 1099511627776 < r + ro := fun h => hov (Or.inr h)
        have hd1 : decide (1099511627776 < b + bo) = false := decide_eq_false hov1
        have hd2 : decide (1099511627776 < r + ro) = false := decide_eq_false hov2
        clear hdr he hc hge hfe hbo hro hux HS HS' hov
        go_wp2_with fail
        refine (cL _).mono ?_; rintro r1 w5 ⟨rfl, hb5⟩
        have b5 := hbw.trans (hb5.mono hbw.size)
        clear cL c0 hb5
        go_wp2
        go_roundw
        case rel => exact ⟨k + 1, b + bo, r + ro, by omega, by go_num, rfl, rfl, by omega, by omega, by omega, by omega, HS2, b5⟩
        case measure => simp [RowKit.intOf]; omega
    · have hltI : ¬ (k : Int) < n := by omega
      have HS' := HS.out
      rw [List.drop_eq_nil_of_le (by rw [HN.out]; omega), sumL] at HS'
      simp only [Prod.mk.injEq] at HS'
      obtain ⟨rfl, rfl, rfl⟩ := HS'
      clear HS
      go_wp2
      go_ret3
      exact ⟨rfl, hbw⟩
set_option maxHeartbeats 1000000 in
theorem lens_any {I : List Nat} {a : Nat → Addr} (v : Value) (E : List Op5) (w : World) (hI : ∀ i ∈ IxO, i ∈ I) (hS : Std I a w) (hv : ReO w v E) (hF : FitL E) (hl : E.length ≤ 1048576) :
    Calls Tryd.prog 40 #[v] w fun r w' => r = .returned (.tuple #[.int .i64 (lensL E).1, .int .i64 (lensL E).2.1, errOf a (lensL E).2.2]) ∧ Below w.heap.size w w' := by
  have c1 := of_any v E w hI hS hv hF hl
  have c2 := fun W v' P (hW : Below w.heap.size w W) (h1 : OwnI W w.heap.size v' P) (h2 : PieD W w.heap.size P E) (h3 : (badP E).2 = 0) => sum_any v' P E w.heap.size W hI (hS.below hW) h1 h2 (bad_zero.1 h3) hF hl
  obtain ⟨D, ⟨p, cap, rfl, _, _, _⟩, hre⟩ := hv
  rw [forall2_len hre] at c1 ⊢
  clear hS hI hF hre
  unfold lensL
  cases hb : (badP E).2 with
  | zero =>
    rw [if_neg (by simp)]
    obtain ⟨x, hx⟩ : ∃ x, badP E = x := ⟨_, rfl⟩
    obtain ⟨S, hs⟩ : ∃ x, sumL 0 0 E = x := ⟨_, rfl⟩
    rw [hb, errOf_zero] at c1
    obtain ⟨i1, hi1⟩ : ∃ i : Int, ((badP E).1 : Int) = i := ⟨_, rfl⟩
    rw [hi1] at c1
    rw [hs] at c2 ⊢
    obtain ⟨b9, r9, e9⟩ := S
    simp only at c2 ⊢
    obtain ⟨er, her⟩ : ∃ er, errOf a e9 = er := ⟨_, rfl⟩
    rw [her] at c2 ⊢
    have C2 : Hid _ := c2
    have HB : Hid ((badP E).2 = 0) := hb
    clear hb hx hs hi1 c2 her
    go_enter Tryd.func40, Tryd.ntmps40
    go_wp2_with fail
    refine c1.mono ?_; rintro r w2 ⟨v', rfl, hok, _, hb2⟩
    obtain ⟨P, hP1, hP2⟩ := hok (by simp)
    have c3 := C2.out _ v' P hb2 hP1 hP2 HB.out
    clear c1 C2 hok hP1 hP2
    go_wp2_with fail
    refine c3.mono ?_; rintro r w3 ⟨rfl, hb3⟩
    have b3 := hb2.trans (hb3.mono hb2.size)
    clear c3 hb2 hb3
    go_wp2
    go_ret3
    exact ⟨rfl, b3⟩
  | succ e =>
    rw [if_pos (by omega)]
    rw [hb, errOf_succ] at c1
    obtain ⟨i1, hi1⟩ : ∃ i : Int, ((badP E).1 : Int) = i := ⟨_, rfl⟩
    rw [hi1] at c1
    rw [errOf_succ]
    clear hi1 hb c2
    go_enter Tryd.func40, Tryd.ntmps40
    go_wp2_with fail
    refine c1.mono ?_; rintro r w2 ⟨v', rfl, _, hz, hb2⟩
    obtain rfl := hz (by omega)
    clear c1 hz
    go_wp2
    go_ret3
    exact ⟨rfl, hb2⟩
end Go.Proofs.YtkgflmbhkbeakaaDoor
