/- What attrs.Compose, Apply, Diff, Invert and Transform answer. -/
import Derived.Test.YtplnojapnaaakaaGreatDoorPJo
import Derived.Test.YtplnojapnaaakaaGreatDoorPSm
namespace Go.Proofs.YtplnojapnaaakaaGreatDoor
open Go Go.RowKit Go.Lib
set_option linter.unusedVariables false
/-- What two lists are refused with. -/
def bothE (A : List A2) (na : Bool) (B : List A2) (nb : Bool) : Nat := if listE na none A = 0 then listE nb none B else listE na none A
theorem own_weaken {w : World} {B B' : Nat} {e : TypeId} {size : Nat} {v : Value} {n : Nat} {xs : List Value} (h : w.ownsRow B e size v n xs) (hb : B' ≤ B) : w.ownsRow B' e size v n xs := by
  refine ⟨h.1, ?_⟩
  rcases h.2 with h | ⟨g, cap, cur, h1, h2, h3⟩
  · exact Or.inl h
  · exact Or.inr ⟨g, cap, cur, h1, Nat.le_trans hb h2, h3⟩
/-- A list that the call has made. -/
abbrev OwnA (w : World) (B : Nat) (v : Value) (L : List A2) : Prop := w.ownsRow B 154 4 v L.length (cellsA L)

theorem checkBoth_any {I : List Nat} {a : Nat → Addr} (va vb : Value) (A B : List A2) (na nb : Bool) (w : World) (hI : ∀ i ∈ IX, i ∈ I) (hS : Std I a w) (hA : RowA w va A) (hB : RowA w vb B)
    (sA : Small A) (sB : Small B) (hl : A.length + B.length ≤ 1048576) :
    Calls Tryz.prog 136 #[va, .bool na, vb, .bool nb] w fun r w' => r = .returned (errOf a (bothE A na B nb)) ∧ Below w.heap.size w w' := by
  have cA := check_gen va A na w hI hS hA sA (by omega)
  have cB := fun W (hW : Below w.heap.size w W) => from_below hW (check_gen vb B nb W hI (hS.below hW) (hB.below hW) sB (by omega))
  obtain ⟨pa, ca, rfl, _⟩ := hA.val
  obtain ⟨pb, cb, rfl, _⟩ := hB.val
  clear hA hB hS hI sA sB hl
  unfold bothE
  cases hE : listE na none A with
  | zero =>
    rw [hE, errOf_zero] at cA
    rw [if_pos rfl]
    obtain ⟨R, hR⟩ : ∃ R, errOf a (listE nb none B) = R := ⟨_, rfl⟩
    rw [hR] at cB ⊢
    clear hR hE
    go_enter Tryz.func136, Tryz.ntmps136
    go_wp2_with fail
    refine cA.mono ?_; rintro r w2 ⟨rfl, hb2⟩
    have cB' := cB _ hb2
    clear cB cA
    go_wp2_with fail
    refine cB'.mono ?_; rintro r w3 ⟨rfl, hb3⟩
    go_wp2
    go_ret
    exact ⟨rfl, hb3⟩
  | succ e =>
    rw [hE, errOf_succ] at cA
    rw [if_neg (by omega), errOf_succ]
    clear cB hE
    go_enter Tryz.func136, Tryz.ntmps136
    go_wp2_with fail
    refine cA.mono ?_; rintro r w2 ⟨rfl, hb2⟩
    go_wp2
    go_ret
    exact ⟨rfl, hb2⟩

theorem compose_any (nulls : Bool) (va vb : Value) (A B : List A2) (w : World) (hA : RowA w va A) (hB : RowA w vb B) (sA : Small A) (sB : Small B) (hl : A.length + B.length ≤ 1048576) :
    Calls Tryz.prog 137 #[va, vb, .bool nulls] w fun r w' => ∃ v', r = .returned v' ∧ OwnA w' w.heap.size v' (jn (chC nulls) A B) ∧ Below w.heap.size w w' := by
  obtain ⟨W0, hW0⟩ : ∃ W0, W0 = w.alloc (.cells #[.bool nulls] 4) := ⟨_, rfl⟩
  have b0 : Below w.heap.size w W0 := by rw [hW0]; exact (Below.refl _ _).alloc (Nat.le_refl _) _
  have hf : W0.cell? ⟨w.heap.size, 0, none⟩ = some (.bool nulls) := by rw [hW0]; simp
  have cJ := join_gen (chC nulls) 158 _ (enters_of Tryz.func158 (by kernel_rfl) rfl) va vb A B W0 (hA.below b0) (hB.below b0) sA sB hl (chooses_C nulls w.heap.size W0 hf)
  obtain ⟨pa, ca, rfl, _⟩ := hA.val
  obtain ⟨pb, cb, rfl, _⟩ := hB.val
  clear hA hB sA sB hl hf
  go_enter Tryz.func137, Tryz.ntmps137
  go_wp2_with fail
  rw [← hW0]
  clear hW0
  refine cJ.mono ?_; rintro r w2 ⟨v', rfl, own, hb2⟩
  have HO : Hid _ := own
  clear own
  go_wp2
  go_ret
  exact ⟨_, rfl, own_weaken HO.out b0.size, b0.trans (hb2.mono b0.size)⟩

theorem comp_no {I : List Nat} {a : Nat → Addr} (nulls : Bool) (va vb : Value) (A B : List A2) (w : World) (hI : ∀ i ∈ IX, i ∈ I) (hS : Std I a w) (hA : RowA w va A) (hB : RowA w vb B) (sA : Small A) (sB : Small B) (hl : A.length + B.length ≤ 1048576) (e : Nat) (hE : bothE A true B true = e + 1) :
    Calls Tryz.prog 153 #[va, vb, .bool nulls] w fun r w' => r = .returned (.tuple #[.slice none 0 0, errV a e]) ∧ Below w.heap.size w w' := by
  have c := checkBoth_any va vb A B true true w hI hS hA hB sA sB hl
  rw [hE, errOf_succ] at c
  obtain ⟨pa, ca, rfl, _⟩ := hA.val
  obtain ⟨pb, cb, rfl, _⟩ := hB.val
  clear hA hB hS hI sA sB hl hE
  go_enter Tryz.func153, Tryz.ntmps153
  go_wp2_with fail
  refine c.mono ?_; rintro r w2 ⟨rfl, hb2⟩
  go_wp2
  go_ret2
  exact ⟨rfl, hb2⟩

theorem comp_ok {I : List Nat} {a : Nat → Addr} (nulls : Bool) (va vb : Value) (A B : List A2) (w : World) (hI : ∀ i ∈ IX, i ∈ I) (hS : Std I a w) (hA : RowA w va A) (hB : RowA w vb B) (sA : Small A) (sB : Small B) (hl : A.length + B.length ≤ 1048576) (hE : bothE A true B true = 0) :
    Calls Tryz.prog 153 #[va, vb, .bool nulls] w fun r w' => ∃ v', r = .returned (.tuple #[v', .nilIface]) ∧ OwnA w' w.heap.size v' (jn (chC nulls) A B) ∧ Below w.heap.size w w' := by
  have c := checkBoth_any va vb A B true true w hI hS hA hB sA sB hl
  rw [hE, errOf_zero] at c
  have cJ := fun W (hW : Below w.heap.size w W) => compose_any nulls va vb A B W (hA.below hW) (hB.below hW) sA sB hl
  obtain ⟨pa, ca, rfl, _⟩ := hA.val
  obtain ⟨pb, cb, rfl, _⟩ := hB.val
  clear hA hB hS hI sA sB hl hE
  go_enter Tryz.func153, Tryz.ntmps153
  go_wp2_with fail
  refine c.mono ?_; rintro r w2 ⟨rfl, hb2⟩
  have cJ' := cJ _ hb2
  clear cJ c
  go_wp2_with fail
  refine cJ'.mono ?_; rintro r w3 ⟨v', rfl, own, hb3⟩
  have HO : Hid _ := own
  clear own
  go_wp2
  go_ret2
  exact ⟨_, rfl, own_weaken HO.out (Nat.le_trans (Nat.le_refl _) hb2.size), hb2.trans (hb3.mono (Nat.le_trans (Nat.le_refl _) hb2.size))⟩

theorem appl_no {I : List Nat} {a : Nat → Addr} (va vb : Value) (A B : List A2) (w : World) (hI : ∀ i ∈ IX, i ∈ I) (hS : Std I a w) (hA : RowA w va A) (hB : RowA w vb B) (sA : Small A) (sB : Small B) (hl : A.length + B.length ≤ 1048576) (e : Nat) (hE : bothE A false B true = e + 1) :
    Calls Tryz.prog 112 #[va, vb] w fun r w' => r = .returned (.tuple #[.slice none 0 0, errV a e]) ∧ Below w.heap.size w w' := by
  have c := checkBoth_any va vb A B false true w hI hS hA hB sA sB hl
  rw [hE, errOf_succ] at c
  obtain ⟨pa, ca, rfl, _⟩ := hA.val
  obtain ⟨pb, cb, rfl, _⟩ := hB.val
  clear hA hB hS hI sA sB hl hE
  go_enter Tryz.func112, Tryz.ntmps112
  go_wp2_with fail
  refine c.mono ?_; rintro r w2 ⟨rfl, hb2⟩
  go_wp2
  go_ret2
  exact ⟨rfl, hb2⟩

theorem appl_ok {I : List Nat} {a : Nat → Addr} (va vb : Value) (A B : List A2) (w : World) (hI : ∀ i ∈ IX, i ∈ I) (hS : Std I a w) (hA : RowA w va A) (hB : RowA w vb B) (sA : Small A) (sB : Small B) (hl : A.length + B.length ≤ 1048576) (hE : bothE A false B true = 0) :
    Calls Tryz.prog 112 #[va, vb] w fun r w' => ∃ v', r = .returned (.tuple #[v', .nilIface]) ∧ OwnA w' w.heap.size v' (jn (chC false) A B) ∧ Below w.heap.size w w' := by
  have c := checkBoth_any va vb A B false true w hI hS hA hB sA sB hl
  rw [hE, errOf_zero] at c
  have cJ := fun W (hW : Below w.heap.size w W) => compose_any false va vb A B W (hA.below hW) (hB.below hW) sA sB hl
  obtain ⟨pa, ca, rfl, _⟩ := hA.val
  obtain ⟨pb, cb, rfl, _⟩ := hB.val
  clear hA hB hS hI sA sB hl hE
  go_enter Tryz.func112, Tryz.ntmps112
  go_wp2_with fail
  refine c.mono ?_; rintro r w2 ⟨rfl, hb2⟩
  have cJ' := cJ _ hb2
  clear cJ c
  go_wp2_with fail
  refine cJ'.mono ?_; rintro r w3 ⟨v', rfl, own, hb3⟩
  have HO : Hid _ := own
  clear own
  go_wp2
  go_ret2
  exact ⟨_, rfl, own_weaken HO.out (Nat.le_trans (Nat.le_refl _) hb2.size), hb2.trans (hb3.mono (Nat.le_trans (Nat.le_refl _) hb2.size))⟩

end Go.Proofs.YtplnojapnaaakaaGreatDoor
