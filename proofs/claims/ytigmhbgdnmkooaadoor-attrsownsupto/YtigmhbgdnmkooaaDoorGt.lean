/- What attrs.Get answers. -/
import Derived.Test.YtigmhbgdnmkooaaDoorBs
import Derived.Test.YtigmhbgdnmkooaaDoorPc
namespace Go.Proofs.YtigmhbgdnmkooaaDoor
open Go Go.RowKit Go.Lib
set_option linter.unusedVariables false

theorem get_bad {I : List Nat} {a : Nat → Addr} (v : Value) (L : List A2) (key : ByteArray) (w : World) (hI : ∀ i ∈ IX, i ∈ I) (hS : Std I a w) (hv : RowA w v L) (hs : Small L) (hl : L.length ≤ 1048576) (e : Nat) (hE : listE true none L = e + 1) :
    Calls Tryd.prog 15 #[v, .string key] w fun r w' => r = .returned (.tuple #[.nilIface, .bool false]) ∧ Below w.heap.size w w' := by
  have c := check_gen v L true w hI hS hv hs (by omega)
  rw [hE, errOf_succ] at c
  obtain ⟨p, ca, rfl, _⟩ := hv.val
  clear hv hS hI hs hl hE
  go_enter Tryd.func15, Tryd.ntmps15
  go_wp2_with fail
  refine c.mono ?_; rintro r w2 ⟨rfl, hb2⟩
  go_wp2
  go_ret2
  exact ⟨rfl, hb2⟩

set_option maxHeartbeats 1000000 in
theorem get_ok {I : List Nat} {a : Nat → Addr} (v : Value) (L : List A2) (key : ByteArray) (w : World) (hI : ∀ i ∈ IX, i ∈ I) (hS : Std I a w) (hv : RowA w v L) (hs : Small L) (hl : L.length ≤ 1048576) (hE : listE true none L = 0) :
    Calls Tryd.prog 15 #[v, .string key] w fun r w' => (∃ p, look key L = some p ∧ r = .returned (.tuple #[valOf p.1 p.2.1 p.2.2, .bool true]) ∧ Below w.heap.size w w') ∨ (look key L = none ∧ r = .returned (.tuple #[.nilIface, .bool false]) ∧ Below w.heap.size w w') := by
  have c := check_gen v L true w hI hS hv hs (by omega)
  rw [hE, errOf_zero] at c
  have hP := pat_of hE
  have hI' : ∀ i ∈ [0, 4, 9], i ∈ I := fun i hi => hI i (by simp at hi ⊢; omega)
  have cS := fun W (hW : Below w.heap.size w W) => search_any v L (key, 0, 0, ⟨#[]⟩) W (hv.below hW) hl hP.up
  have HV : Hid (∀ W, Below w.heap.size w W → ∀ i p, L[i]? = some (key, p) → look key L = some p ∧ Calls Tryd.prog 46 #[pl p.1 p.2.1 p.2.2] W fun r w' => r = .returned (.tuple #[valOf p.1 p.2.1 p.2.2, .nilIface]) ∧ Below w.heap.size w w') := fun W hW i p hp => by
    have hm := List.mem_of_getElem? hp
    have h1 := hs _ hm
    exact ⟨mem_look hP.up hm, from_below hW (of_ok p.1 p.2.1 p.2.2 W hI' (hS.below hW) h1.2 (pairE_zero.1 (hP.good _ hm)).2)⟩
  obtain ⟨n, hn⟩ : ∃ n, L.length = n := ⟨_, rfl⟩
  obtain ⟨pp, cap, rfl, hcap, hc⟩ := hv
  rw [hn] at cS c hcap ⊢
  have HC : Hid _ := hc
  have HN : Hid (L.length = n) := hn
  clear hc hn hS hI hs hE hP hI'
  go_enter Tryd.func15, Tryd.ntmps15
  go_wp2_with fail
  refine c.mono ?_; rintro r w2 ⟨rfl, b2⟩
  have cS' := cS _ b2
  clear cS c
  go_wp2_with fail
  refine cS'.mono ?_; rintro r w3 ⟨i, has, rfl, h1, h2, b3⟩
  have b4 := b2.trans (b3.mono b2.size)
  clear cS' b2 b3
  cases has with
  | false =>
    have hn := h2 rfl
    have HF : Hid (look key L = none) := hn
    clear h1 h2 hn
    go_wp2
    go_ret2
    exact Or.inr ⟨HF.out, rfl, b4⟩
  | true =>
    obtain ⟨⟨k, x, t⟩, hp⟩ := h1 rfl
    have hin : (i : Int) < (n : Int) := by have := (List.getElem?_eq_some_iff.1 hp).1; rw [HN.out] at this; omega
    have hi0 : (0 : Int) ≤ (i : Int) := by omega
    obtain ⟨hl1, cO⟩ := HV.out _ b4 i _ hp
    obtain ⟨b, off, rfl, hq⟩ := HC.out i _ hp
    obtain ⟨c0, c1, c2, c3⟩ := hq.below b4
    have HF : Hid (look key L = some (k, x, t)) := hl1
    simp only at c0 c1 c2 c3
    clear h1 h2 hp hl1 hq
    go_wp2_with fail
    refine cO.mono ?_; rintro r w5 ⟨rfl, b5⟩
    go_wp2_with fail
    go_quiet (fail)
    go_wp2
    go_ret2
    exact Or.inl ⟨_, HF.out, rfl, by first | exact b5 | exact below_drewN b5 _⟩
end Go.Proofs.YtigmhbgdnmkooaaDoor
