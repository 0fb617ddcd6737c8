/- ops.Canonical. -/
import Derived.Test.YtkgflmbhkbeakabDoorQf
namespace Go.Proofs.YtkgflmbhkbeakabDoor
open Go Go.RowKit Go.Lib
set_option linter.unusedVariables false

/-- Each may follow the one ahead of it. -/
def chainB : List Op5 → Bool
  | x :: y :: r => apartB x y && chainB (y :: r)
  | _ => true
/-- The last one isn't a plain retain. -/
def lastP (E : List Op5) : Bool := match E.getLast? with | some o => !plainR o | none => true
/-- Is a list canonical? -/
def canonB (E : List Op5) : Bool := decide ((lensL E).2.2 = 0) && chainB E && lastP E
theorem chain_iff : ∀ {E : List Op5}, chainB E = true ↔ ∀ j x y, E[j]? = some x → E[j + 1]? = some y → apartB x y = true
  | [] => ⟨fun _ j x y h => by simp at h, fun _ => rfl⟩
  | [a] => ⟨fun _ j x y _ h => by simp at h, fun _ => rfl⟩
  | a :: b :: r => by
    rw [chainB, Bool.and_eq_true, chain_iff (E := b :: r)]
    constructor
    · rintro ⟨h1, h2⟩ j x y hx hy
      cases j with
      | zero =>
        obtain rfl : a = x := by simpa using hx
        obtain rfl : b = y := by simpa using hy
        exact h1
      | succ j => exact h2 j x y (by simpa using hx) (by simpa using hy)
    · intro h
      exact ⟨h 0 a b rfl rfl, fun j x y hx hy => h (j + 1) x y (by simpa using hx) (by simpa using hy)⟩
theorem lens_cases (E : List Op5) : (lensL E).2.2 = 0 ↔ (badP E).2 = 0 ∧ (sumL 0 0 E).2.2 = 0 := by
  unfold lensL
  by_cases h : (badP E).2 = 0
  · rw [if_neg (by simpa using h)]; exact ⟨fun h2 => ⟨h, h2⟩, fun h2 => h2.2⟩
  · rw [if_pos h]; exact ⟨fun h2 => absurd h2 h, fun h2 => absurd h2.1 h⟩

set_option maxHeartbeats 2000000 in
set_option maxRecDepth 100000 in
theorem canon_any {I : List Nat} {a : Nat → Addr} (v : Value) (E : List Op5) (w : World) (hI : ∀ i ∈ IxO, i ∈ I) (hS : Std I a w) (hv : ReO w v E) (hF : FitL E) (hl : E.length ≤ 1048576) :
    Calls Tryd.prog 10 #[v] w fun r w' => r = .returned (.bool (canonB E)) ∧ Below w.heap.size w w' := by
  have c1 := of_any v E w hI hS hv hF hl
  have c2 := fun W v' P (hW : Below w.heap.size w W) (h1 : OwnI W w.heap.size v' P) (h2 : PieD W w.heap.size P E) (h3 : (badP E).2 = 0) => sum_any v' P E w.heap.size W hI (hS.below hW) h1 h2 (bad_zero.1 h3) hF hl
  obtain ⟨D, ⟨p, cap, rfl, _, _, _⟩, hre⟩ := hv
  rw [forall2_len hre] at c1 ⊢
  clear hS hI hre
  have hlc := lens_cases E
  cases hb : (badP E).2 with
  | zero =>
    obtain ⟨S, hs⟩ : ∃ x, sumL 0 0 E = x := ⟨_, rfl⟩
    rw [hb, errOf_zero] at c1
    have hgood : ∀ o ∈ E, opE o = 0 := bad_zero.1 hb
    obtain ⟨i1, hi1⟩ : ∃ i : Int, ((badP E).1 : Int) = i := ⟨_, rfl⟩
    rw [hi1] at c1
    rw [hs] at c2 hlc
    rw [hb] at hlc
    obtain ⟨b9, r9, e9⟩ := S
    simp only [true_and] at c2 hlc
    cases e9 with
    | succ e =>
      have hcan : Hid (canonB E = false) := by
        show canonB E = false
        unfold canonB
        rw [decide_eq_false (fun h => by have := hlc.1 h; omega)]; rfl
      rw [errOf_succ] at c2
      have C2 : Hid _ := c2
      have HB : Hid ((badP E).2 = 0) := hb
      clear hb hs hi1 c2 hlc hgood
      go_enter Tryd.func10, Tryd.ntmps10
      go_wp2_with fail
      refine c1.mono ?_; rintro r w2 ⟨v', rfl, hok, _, hb2⟩
      obtain ⟨P, hP1, hP2⟩ := hok (by simp)
      have c3 := C2.out _ v' P hb2 hP1 hP2 HB.out
      clear c1 C2 hok hP1 hP2
      go_wp2_with fail
      refine c3.mono ?_; rintro r w3 ⟨rfl, hb3⟩
      have b3 := hb2.trans (hb3.mono hb2.size)
      clear c3 hb2 hb3
      go_wp2
      go_ret
      exact ⟨by rw [hcan.out]; rfl, b3⟩
    | zero =>
      rw [errOf_zero] at c2
      have HLZ : Hid ((lensL E).2.2 = 0) := hlc.2 rfl
      have C2 : Hid _ := c2
      have HB : Hid ((badP E).2 = 0) := hb
      have HGF : Hid (∀ o ∈ E, opE o = 0 ∧ Fit o) := fun o ho => ⟨hgood o ho, hF o ho⟩
      clear hb hs hi1 c2 hlc hgood hF
      go_enter Tryd.func10, Tryd.ntmps10
      go_wp2_with fail
      refine c1.mono ?_; rintro r w2 ⟨v', rfl, hok, _, hb2⟩
      obtain ⟨P, hP1, hP2⟩ := hok (by simp)
      have c3 := C2.out _ v' P hb2 hP1 hP2 HB.out
      obtain ⟨p', cap', rfl⟩ := own_slice hP1
      obtain ⟨n, hn⟩ : ∃ n, P.length = n := ⟨_, rfl⟩
      have hPE := forall2_len hP2
      have HN : Hid (E.length = n) := by show _ = _; omega
      rw [hn] at c3 ⊢
      have hln : n ≤ 1048576 := by omega
      have HV : Hid (∀ k, k < n → ∃ ga e s, p' = some ⟨ga, 0, none⟩ ∧ E[k]? = some e ∧ w2.cell? ⟨ga, k, none⟩ = some (pieceQ e s) ∧ RN w2 s e.A) := fun k hk => by
        obtain ⟨g, c, x, hv', hB, hx, hc⟩ := own_cell hP1 k (by omega)
        obtain ⟨e, s, he, rfl, ho⟩ := oneI hP2 hx
        simp only [Value.slice.injEq] at hv'
        exact ⟨g, e, s, hv'.1, he, hc, own_RN ho⟩
      clear c1 C2 hok hP1 hP2 hn hPE hl
      go_wp2_with fail
      refine c3.mono ?_; rintro r w3 ⟨rfl, hb3⟩
      have b3 := hb2.trans (hb3.mono hb2.size)
      clear c3
      go_wp2_with fail
      go_loopw [29] (fun i wr => ∃ (k : Nat), k ≤ n ∧ i = .int .i64 k ∧ Hid (∀ j x y, j + 1 < k → E[j]? = some x → E[j + 1]? = some y → apartB x y = true) ∧ Below w2.heap.size w2 wr) (fun i _ => n - (RowKit.intOf i).toNat)
      case atStart => exact ⟨0, Nat.zero_le _, rfl, fun j x y h => by omega, hb3⟩
      case round =>
        clear hb3 b3
        obtain ⟨k, hk, rfl, HCh, hbw⟩ := hrel
        by_cases hlt : k < n
        · have hltI : (k : Int) < n := by omega
          obtain ⟨ga, e, s, rfl, he, hc, hs⟩ := HV.out k hlt
          have c0 := (hbw.cell (lt_of_cell hc)).trans hc
          obtain ⟨u, x, hux⟩ := pieceQ_if e s
          rw [hux] at c0
          cases k with
          | zero =>
            have hz : decide ((0 : Int) < ((0 : Nat) : Int)) = false := by decide
            clear he hc hs hux
            go_wp2
            go_roundw
            case rel => exact ⟨1, by omega, by go_num, fun j x y h => by omega, hbw⟩
            case measure => simp [RowKit.intOf]; omega
          | succ m =>
            obtain ⟨ga', e', s', hga, he', hc', hs'⟩ := HV.out m (by omega)
            simp only [Option.some.injEq, Addr.mk.injEq, and_true] at hga
            subst hga
            have c0' := (hbw.cell (lt_of_cell hc')).trans hc'
            have fe := HGF.out e (List.mem_of_getElem? he)
            have fe' := HGF.out e' (List.mem_of_getElem? he')
            have cM := fun W (hW : Below w2.heap.size w2 W) => mayF_any e' e s' s W (hs'.below hW) (hs.below hW) fe'.1 fe.1 (by have := fe'.2.n; omega) (by have := fe.2.n; omega)
            obtain ⟨u', x', hux'⟩ := pieceQ_if e' s'
            rw [hux'] at c0' cM
            rw [hux] at cM
            have HE : Hid (E[m]? = some e' ∧ E[m + 1]? = some e) := ⟨he', he⟩
            obtain ⟨q, hq⟩ : ∃ q, apartB e' e = q := ⟨_, rfl⟩
            have HQ : Hid (apartB e' e = q) := hq
            rw [hq] at cM
            have cM := cM _ hbw
            have hm0 : decide ((0 : Int) < (m : Int) + 1) = true := decide_eq_true (by omega)
            have hm1 : ((m : Int) + 1 - 1) = (m : Int) := by omega
            clear he hc hs hux he' hc' hs' hux' fe fe' hq
            cases q with
            | false =>
              have hcan : Hid (canonB E = false) := by
                show canonB E = false
                cases h : chainB E with
                | true => have := chain_iff.1 h m e' e HE.out.1 HE.out.2; rw [HQ.out] at this; cases this
                | false => unfold canonB; rw [h]; simp
              go_wp2_with fail
              refine cM.mono ?_; rintro r w5 ⟨rfl, hb5⟩
              have b5 := hb2.trans ((hbw.trans (hb5.mono hbw.size)).mono hb2.size)
              clear cM hb5
              go_wp2
              go_ret
              exact ⟨by rw [hcan.out]; rfl, b5⟩
            | true =>
              have HCh2 : Hid (∀ j x y, j + 1 < m + 1 + 1 → E[j]? = some x → E[j + 1]? = some y → apartB x y = true) := fun j x y hj hx hy => by
                by_cases hjm : j = m
                · subst hjm
                  obtain rfl := Option.some.inj (hx.symm.trans HE.out.1)
                  obtain rfl := Option.some.inj (hy.symm.trans HE.out.2)
                  exact HQ.out
                · exact HCh.out j x y (by omega) hx hy
              go_wp2_with fail
              refine cM.mono ?_; rintro r w5 ⟨rfl, hb5⟩
              have b5 := hbw.trans (hb5.mono hbw.size)
              clear cM hb5
              go_wp2
              go_roundw
              case rel => exact ⟨m + 1 + 1, by omega, by go_num, HCh2.out, b5⟩
              case measure => simp [RowKit.intOf]; omega
        · have hltI : ¬ (k : Int) < n := by omega
          have hkn : k = n := by omega
          have HC1 : Hid (chainB E = true) := chain_iff.2 fun j x y hx hy => HCh.out j x y (by
            have := (List.getElem?_eq_some_iff.1 hy).1; rw [HN.out] at this; omega) hx hy
          clear HCh hkn
          have bw := hb2.trans (hbw.mono hb2.size)
          cases n with
          | zero =>
            have hcan : Hid (canonB E = true) := by
              show canonB E = true
              have : E = [] := List.eq_nil_of_length_eq_zero HN.out
              unfold canonB
              rw [HC1.out, decide_eq_true HLZ.out, this]; rfl
            have hz : (((0 : Nat) : Int) == 0) = true := by decide
            go_wp2
            go_ret
            exact ⟨by rw [hcan.out]; rfl, bw⟩
          | succ m =>
            obtain ⟨ga, e, s, rfl, he, hc, hs⟩ := HV.out m (by omega)
            have c0 := (hbw.cell (lt_of_cell hc)).trans hc
            have fe := HGF.out e (List.mem_of_getElem? he)
            have cP := plainR_any e s wr (hs.below hbw) fe.1 (by have := fe.2.n; omega)
            obtain ⟨u, x, hux⟩ := pieceQ_if e s
            rw [hux] at c0 cP
            have hcan : Hid (canonB E = !plainR e) := by
              show canonB E = _
              unfold canonB lastP
              rw [HC1.out, decide_eq_true HLZ.out, List.getLast?_eq_getElem?, HN.out]
              simp only [Nat.add_sub_cancel, he]
              rfl
            obtain ⟨q, hq⟩ : ∃ q, plainR e = q := ⟨_, rfl⟩
            rw [hq] at cP hcan
            have hm0 : (((m : Int) + 1) == 0) = false := by simp; omega
            have hm1 : ((m : Int) + 1 - 1) = (m : Int) := by omega
            clear he hc hs hux fe hq
            go_wp2_with fail
            refine cP.mono ?_; rintro r w5 ⟨rfl, hb5⟩
            have b5 := bw.trans (hb5.mono bw.size)
            clear cP hb5
            go_wp2
            go_ret
            exact ⟨by rw [hcan.out]; rfl, b5⟩
  | succ e =>
    have hcan : Hid (canonB E = false) := by
      show canonB E = false
      unfold canonB
      rw [decide_eq_false (fun h => by have := (hlc.1 h).1; omega)]; rfl
    rw [hb, errOf_succ] at c1
    obtain ⟨i1, hi1⟩ : ∃ i : Int, ((badP E).1 : Int) = i := ⟨_, rfl⟩
    rw [hi1] at c1
    clear hi1 hb c2 hlc
    go_enter Tryd.func10, Tryd.ntmps10
    go_wp2_with fail
    refine c1.mono ?_; rintro r w2 ⟨v', rfl, _, hz, hb2⟩
    obtain rfl := hz (by omega)
    clear c1 hz
    go_wp2
    go_ret
    exact ⟨by rw [hcan.out]; rfl, hb2⟩
end Go.Proofs.YtkgflmbhkbeakabDoor
