/- What vellumref03.Compose, Apply, Diff, Invert and Transform answer. -/
import Derived.Test.YtbbkbfcgjljmkaaDoorRb
namespace Go.Proofs.YtbbkbfcgjljmkaaDoor
open Go Go.RowKit Go.Lib
set_option linter.unusedVariables false

/-- A nil slice is empty and has no room. -/
abbrev NilZ (v : Value) : Prop := ∀ m c, v = .slice none m c → m = 0 ∧ c = 0
theorem wholeL_len (L : List A2) : (wholeL L).length ≤ L.length := List.length_filter_le _ _

theorem patched_any (va vb : Value) (A B : List A2) (w : World) (hA : RowA w va A) (hB : RowA w vb B) (zB : NilZ vb) (uA : Up A) (uB : Up B) (hl : A.length + B.length ≤ 1048576) :
    Calls Tryd.prog 57 #[va, vb] w fun r w' => ∃ v', r = .returned v' ∧ OwnA w' w.heap.size v' (jn (chC false) A B) ∧ Below w.heap.size w w' := by
  have cJ := join_ref va vb A B w hA hB zB uA uB hl
  have cW := fun W (v : Value) (hv : RowA W v (jn (chC true) A B)) => whole_any v (jn (chC true) A B) W hv (by have := jn_len (chC true) A B; omega)
  rw [whole_eq uA uB] at cW
  obtain ⟨pa, ca, rfl, _⟩ := hA.val
  obtain ⟨pb, cb, rfl, _⟩ := hB.val
  clear hA hB uA uB hl zB
  go_enter Tryd.func57, Tryd.ntmps57
  go_wp2_with fail
  refine cJ.mono ?_; rintro r w2 ⟨v', rfl, own, hb2⟩
  have cW' := cW w2 v' (own_rowA own)
  clear cJ cW own
  go_wp2_with fail
  refine cW'.mono ?_; rintro r w3 ⟨v2, rfl, own, hb3⟩
  have HO : Hid _ := own
  clear own
  go_wp2
  go_ret
  exact ⟨_, rfl, own_weaken HO.out hb2.size, hb2.trans (hb3.mono hb2.size)⟩

theorem undo_any (va vb : Value) (P S : List A2) (w : World) (hA : RowA w va P) (hB : RowA w vb S) (zA : NilZ va) (zB : NilZ vb) (pP : Pat P) (pS : Pat S) (nS : NoNull S) (hl : P.length + S.length + S.length ≤ 1048576) :
    Calls Tryd.prog 63 #[va, vb] w fun r w' => ∃ v', r = .returned v' ∧ OwnA w' w.heap.size v' (jn chI P S) ∧ Below w.heap.size w w' := by
  have cJ := patched_any vb va S P w hB hA zA pS.up pP.up (by omega)
  have cW := fun W (hW : Below w.heap.size w W) (v : Value) (hv : RowA W v (jn (chC false) S P)) => bet_any v vb (jn (chC false) S P) S W hv (hB.below hW) zB (up_join _ pS.up pP.up) pS.up (by have := jn_len (chC false) S P; omega)
  rw [bet_eq (up_join _ pS.up pP.up) pS.up, und_eq pS.up pP.up nS pP.null0] at cW
  obtain ⟨pa, ca, rfl, _⟩ := hA.val
  obtain ⟨pb, cb, rfl, _⟩ := hB.val
  clear hA hB pP pS nS hl zB zA
  go_enter Tryd.func63, Tryd.ntmps63
  go_wp2_with fail
  refine cJ.mono ?_; rintro r w2 ⟨v', rfl, own, hb2⟩
  have cW' := cW w2 hb2 v' (own_rowA own)
  clear cJ cW own
  go_wp2_with fail
  refine cW'.mono ?_; rintro r w3 ⟨v2, rfl, own, hb3⟩
  have HO : Hid _ := own
  clear own
  go_wp2
  go_ret
  exact ⟨_, rfl, own_weaken HO.out hb2.size, hb2.trans (hb3.mono hb2.size)⟩

theorem rappl_no {I : List Nat} {a : Nat → Addr} (va vb : Value) (A B : List A2) (w : World) (hS : Std I a w) (hA : RowA w va A) (hB : RowA w vb B) (zA : NilZ va) (zB : NilZ vb) (sA : Tiny A) (sB : Tiny B) (hl : A.length + B.length + B.length ≤ 1048576) (hE : bothE A false B true ≠ 0) :
    Calls Tryd.prog 25 #[va, vb] w fun r w' => r = .returned (.tuple #[.slice none 0 0, .int .i64 (bothE A false B true)]) ∧ Below w.heap.size w w' := by
  have c := ref_both va vb A B false true w hS hA hB sA sB (by omega)
  obtain ⟨E, hE2⟩ : ∃ E, bothE A false B true = E := ⟨_, rfl⟩
  rw [hE2] at c hE ⊢
  have hen : ((E : Int) != 0) = true := by simp; omega
  obtain ⟨pa, ca, rfl, _⟩ := hA.val
  obtain ⟨pb, cb, rfl, _⟩ := hB.val
  clear hA hB hS sA sB hl hE hE2 zA zB
  go_enter Tryd.func25, Tryd.ntmps25
  go_wp2_with fail
  refine c.mono ?_; rintro r w2 ⟨rfl, hb2⟩
  go_wp2
  go_ret2
  exact ⟨rfl, hb2⟩

theorem rappl_ok {I : List Nat} {a : Nat → Addr} (va vb : Value) (A B : List A2) (w : World) (hS : Std I a w) (hA : RowA w va A) (hB : RowA w vb B) (zA : NilZ va) (zB : NilZ vb) (sA : Tiny A) (sB : Tiny B) (hl : A.length + B.length + B.length ≤ 1048576) (hE : bothE A false B true = 0) :
    Calls Tryd.prog 25 #[va, vb] w fun r w' => ∃ v', r = .returned (.tuple #[v', .int .i64 0]) ∧ OwnA w' w.heap.size v' (jn (chC false) A B) ∧ Below w.heap.size w w' := by
  have c := ref_both va vb A B false true w hS hA hB sA sB (by omega)
  rw [hE] at c
  have hz : listE false none A = 0 ∧ listE true none B = 0 := by
    unfold bothE at hE
    by_cases h : listE false none A = 0
    · rw [if_pos h] at hE; exact ⟨h, hE⟩
    · rw [if_neg h] at hE; exact absurd hE h
  have gA : Pat A := (set_of hz.1).1
  have gB : Pat B := pat_of hz.2
  have cJ : ∀ W, Below w.heap.size w W → Calls Tryd.prog 57 #[va, vb] W fun r w' => ∃ v', r = .returned v' ∧ OwnA w' W.heap.size v' (jn (chC false) A B) ∧ Below W.heap.size W w' := fun W hW => by
    exact patched_any va vb A B W (hA.below hW) (hB.below hW) zB gA.up gB.up (by omega)
  obtain ⟨pa, ca, rfl, _⟩ := hA.val
  obtain ⟨pb, cb, rfl, _⟩ := hB.val
  clear hA hB hS sA sB hl hE zA zB hz gA gB
  go_enter Tryd.func25, Tryd.ntmps25
  go_wp2_with fail
  refine c.mono ?_; rintro r w2 ⟨rfl, hb2⟩
  have cJ' := cJ _ hb2
  clear cJ c
  go_wp2_with fail
  refine cJ'.mono ?_; rintro r w3 ⟨v', rfl, own, hb3⟩
  have HO : Hid _ := own
  clear own
  go_wp2
  go_ret2
  exact ⟨_, rfl, own_weaken HO.out hb2.size, hb2.trans (hb3.mono hb2.size)⟩

theorem rdiff_no {I : List Nat} {a : Nat → Addr} (va vb : Value) (A B : List A2) (w : World) (hS : Std I a w) (hA : RowA w va A) (hB : RowA w vb B) (zA : NilZ va) (zB : NilZ vb) (sA : Tiny A) (sB : Tiny B) (hl : A.length + B.length + B.length ≤ 1048576) (hE : bothE A false B false ≠ 0) :
    Calls Tryd.prog 27 #[va, vb] w fun r w' => r = .returned (.tuple #[.slice none 0 0, .int .i64 (bothE A false B false)]) ∧ Below w.heap.size w w' := by
  have c := ref_both va vb A B false false w hS hA hB sA sB (by omega)
  obtain ⟨E, hE2⟩ : ∃ E, bothE A false B false = E := ⟨_, rfl⟩
  rw [hE2] at c hE ⊢
  have hen : ((E : Int) != 0) = true := by simp; omega
  obtain ⟨pa, ca, rfl, _⟩ := hA.val
  obtain ⟨pb, cb, rfl, _⟩ := hB.val
  clear hA hB hS sA sB hl hE hE2 zA zB
  go_enter Tryd.func27, Tryd.ntmps27
  go_wp2_with fail
  refine c.mono ?_; rintro r w2 ⟨rfl, hb2⟩
  go_wp2
  go_ret2
  exact ⟨rfl, hb2⟩

theorem rdiff_ok {I : List Nat} {a : Nat → Addr} (va vb : Value) (A B : List A2) (w : World) (hS : Std I a w) (hA : RowA w va A) (hB : RowA w vb B) (zA : NilZ va) (zB : NilZ vb) (sA : Tiny A) (sB : Tiny B) (hl : A.length + B.length + B.length ≤ 1048576) (hE : bothE A false B false = 0) :
    Calls Tryd.prog 27 #[va, vb] w fun r w' => ∃ v', r = .returned (.tuple #[v', .int .i64 0]) ∧ OwnA w' w.heap.size v' (jn chD A B) ∧ Below w.heap.size w w' := by
  have c := ref_both va vb A B false false w hS hA hB sA sB (by omega)
  rw [hE] at c
  have hz : listE false none A = 0 ∧ listE false none B = 0 := by
    unfold bothE at hE
    by_cases h : listE false none A = 0
    · rw [if_pos h] at hE; exact ⟨h, hE⟩
    · rw [if_neg h] at hE; exact absurd hE h
  have gA : Pat A := (set_of hz.1).1
  have gB : Pat B := (set_of hz.2).1
  have nB : NoNull B := (set_of hz.2).2
  have cJ : ∀ W, Below w.heap.size w W → Calls Tryd.prog 61 #[va, vb] W fun r w' => ∃ v', r = .returned v' ∧ OwnA w' W.heap.size v' (jn chD A B) ∧ Below W.heap.size W w' := fun W hW => by
    rw [← bet_eq gA.up gB.up]
    exact bet_any va vb A B W (hA.below hW) (hB.below hW) zB gA.up gB.up (by omega)
  obtain ⟨pa, ca, rfl, _⟩ := hA.val
  obtain ⟨pb, cb, rfl, _⟩ := hB.val
  clear hA hB hS sA sB hl hE zA zB hz gA gB nB
  go_enter Tryd.func27, Tryd.ntmps27
  go_wp2_with fail
  refine c.mono ?_; rintro r w2 ⟨rfl, hb2⟩
  have cJ' := cJ _ hb2
  clear cJ c
  go_wp2_with fail
  refine cJ'.mono ?_; rintro r w3 ⟨v', rfl, own, hb3⟩
  have HO : Hid _ := own
  clear own
  go_wp2
  go_ret2
  exact ⟨_, rfl, own_weaken HO.out hb2.size, hb2.trans (hb3.mono hb2.size)⟩

theorem rinve_no {I : List Nat} {a : Nat → Addr} (va vb : Value) (A B : List A2) (w : World) (hS : Std I a w) (hA : RowA w va A) (hB : RowA w vb B) (zA : NilZ va) (zB : NilZ vb) (sA : Tiny A) (sB : Tiny B) (hl : A.length + B.length + B.length ≤ 1048576) (hE : bothE A true B false ≠ 0) :
    Calls Tryd.prog 29 #[va, vb] w fun r w' => r = .returned (.tuple #[.slice none 0 0, .int .i64 (bothE A true B false)]) ∧ Below w.heap.size w w' := by
  have c := ref_both va vb A B true false w hS hA hB sA sB (by omega)
  obtain ⟨E, hE2⟩ : ∃ E, bothE A true B false = E := ⟨_, rfl⟩
  rw [hE2] at c hE ⊢
  have hen : ((E : Int) != 0) = true := by simp; omega
  obtain ⟨pa, ca, rfl, _⟩ := hA.val
  obtain ⟨pb, cb, rfl, _⟩ := hB.val
  clear hA hB hS sA sB hl hE hE2 zA zB
  go_enter Tryd.func29, Tryd.ntmps29
  go_wp2_with fail
  refine c.mono ?_; rintro r w2 ⟨rfl, hb2⟩
  go_wp2
  go_ret2
  exact ⟨rfl, hb2⟩

theorem rinve_ok {I : List Nat} {a : Nat → Addr} (va vb : Value) (A B : List A2) (w : World) (hS : Std I a w) (hA : RowA w va A) (hB : RowA w vb B) (zA : NilZ va) (zB : NilZ vb) (sA : Tiny A) (sB : Tiny B) (hl : A.length + B.length + B.length ≤ 1048576) (hE : bothE A true B false = 0) :
    Calls Tryd.prog 29 #[va, vb] w fun r w' => ∃ v', r = .returned (.tuple #[v', .int .i64 0]) ∧ OwnA w' w.heap.size v' (jn chI A B) ∧ Below w.heap.size w w' := by
  have c := ref_both va vb A B true false w hS hA hB sA sB (by omega)
  rw [hE] at c
  have hz : listE true none A = 0 ∧ listE false none B = 0 := by
    unfold bothE at hE
    by_cases h : listE true none A = 0
    · rw [if_pos h] at hE; exact ⟨h, hE⟩
    · rw [if_neg h] at hE; exact absurd hE h
  have gA : Pat A := pat_of hz.1
  have gB : Pat B := (set_of hz.2).1
  have nB : NoNull B := (set_of hz.2).2
  have cJ : ∀ W, Below w.heap.size w W → Calls Tryd.prog 63 #[va, vb] W fun r w' => ∃ v', r = .returned v' ∧ OwnA w' W.heap.size v' (jn chI A B) ∧ Below W.heap.size W w' := fun W hW => by
    exact undo_any va vb A B W (hA.below hW) (hB.below hW) zA zB gA gB nB hl
  obtain ⟨pa, ca, rfl, _⟩ := hA.val
  obtain ⟨pb, cb, rfl, _⟩ := hB.val
  clear hA hB hS sA sB hl hE zA zB hz gA gB nB
  go_enter Tryd.func29, Tryd.ntmps29
  go_wp2_with fail
  refine c.mono ?_; rintro r w2 ⟨rfl, hb2⟩
  have cJ' := cJ _ hb2
  clear cJ c
  go_wp2_with fail
  refine cJ'.mono ?_; rintro r w3 ⟨v', rfl, own, hb3⟩
  have HO : Hid _ := own
  clear own
  go_wp2
  go_ret2
  exact ⟨_, rfl, own_weaken HO.out hb2.size, hb2.trans (hb3.mono hb2.size)⟩

theorem rtran_no {I : List Nat} {a : Nat → Addr} (first : Bool) (va vb : Value) (A B : List A2) (w : World) (hS : Std I a w) (hA : RowA w va A) (hB : RowA w vb B) (zA : NilZ va) (zB : NilZ vb) (sA : Tiny A) (sB : Tiny B) (hl : A.length + B.length + B.length ≤ 1048576) (hE : bothE A true B true ≠ 0) :
    Calls Tryd.prog 31 #[va, vb, .bool first] w fun r w' => r = .returned (.tuple #[.slice none 0 0, .int .i64 (bothE A true B true)]) ∧ Below w.heap.size w w' := by
  have c := ref_both va vb A B true true w hS hA hB sA sB (by omega)
  obtain ⟨E, hE2⟩ : ∃ E, bothE A true B true = E := ⟨_, rfl⟩
  rw [hE2] at c hE ⊢
  have hen : ((E : Int) != 0) = true := by simp; omega
  obtain ⟨pa, ca, rfl, _⟩ := hA.val
  obtain ⟨pb, cb, rfl, _⟩ := hB.val
  clear hA hB hS sA sB hl hE hE2 zA zB
  go_enter Tryd.func31, Tryd.ntmps31
  go_wp2_with fail
  refine c.mono ?_; rintro r w2 ⟨rfl, hb2⟩
  go_wp2
  go_ret2
  exact ⟨rfl, hb2⟩

theorem rtran_ok {I : List Nat} {a : Nat → Addr} (first : Bool) (va vb : Value) (A B : List A2) (w : World) (hS : Std I a w) (hA : RowA w va A) (hB : RowA w vb B) (zA : NilZ va) (zB : NilZ vb) (sA : Tiny A) (sB : Tiny B) (hl : A.length + B.length + B.length ≤ 1048576) (hE : bothE A true B true = 0) :
    Calls Tryd.prog 31 #[va, vb, .bool first] w fun r w' => ∃ v', r = .returned (.tuple #[v', .int .i64 0]) ∧ OwnA w' w.heap.size v' (jn (chT first) A B) ∧ Below w.heap.size w w' := by
  have c := ref_both va vb A B true true w hS hA hB sA sB (by omega)
  rw [hE] at c
  have hz : listE true none A = 0 ∧ listE true none B = 0 := by
    unfold bothE at hE
    by_cases h : listE true none A = 0
    · rw [if_pos h] at hE; exact ⟨h, hE⟩
    · rw [if_neg h] at hE; exact absurd hE h
  have gA : Pat A := pat_of hz.1
  have gB : Pat B := pat_of hz.2
  have cJ : ∀ W, Below w.heap.size w W → Calls Tryd.prog 35 #[va, vb, .bool first] W fun r w' => ∃ v', r = .returned v' ∧ OwnA w' W.heap.size v' (jn (chT first) A B) ∧ Below W.heap.size W w' := fun W hW => by
    rw [← over_eq first gA.up gB.up]
    exact over_any va vb A B first W (hB.below hW) (by omega) (hA.below hW) (by omega)
  obtain ⟨pa, ca, rfl, _⟩ := hA.val
  obtain ⟨pb, cb, rfl, _⟩ := hB.val
  clear hA hB hS sA sB hl hE zA zB hz gA gB
  go_enter Tryd.func31, Tryd.ntmps31
  go_wp2_with fail
  refine c.mono ?_; rintro r w2 ⟨rfl, hb2⟩
  have cJ' := cJ _ hb2
  clear cJ c
  go_wp2_with fail
  refine cJ'.mono ?_; rintro r w3 ⟨v', rfl, own, hb3⟩
  have HO : Hid _ := own
  clear own
  go_wp2
  go_ret2
  exact ⟨_, rfl, own_weaken HO.out hb2.size, hb2.trans (hb3.mono hb2.size)⟩

theorem rcomp_no {I : List Nat} {a : Nat → Addr} (nulls : Bool) (va vb : Value) (A B : List A2) (w : World) (hS : Std I a w) (hA : RowA w va A) (hB : RowA w vb B) (zA : NilZ va) (zB : NilZ vb) (sA : Tiny A) (sB : Tiny B) (hl : A.length + B.length + B.length ≤ 1048576) (hE : bothE A true B true ≠ 0) :
    Calls Tryd.prog 23 #[va, vb, .bool nulls] w fun r w' => r = .returned (.tuple #[.slice none 0 0, .int .i64 (bothE A true B true)]) ∧ Below w.heap.size w w' := by
  have c := ref_both va vb A B true true w hS hA hB sA sB (by omega)
  obtain ⟨E, hE2⟩ : ∃ E, bothE A true B true = E := ⟨_, rfl⟩
  rw [hE2] at c hE ⊢
  have hen : ((E : Int) != 0) = true := by simp; omega
  obtain ⟨pa, ca, rfl, _⟩ := hA.val
  obtain ⟨pb, cb, rfl, _⟩ := hB.val
  clear hA hB hS sA sB hl hE hE2 zA zB
  go_enter Tryd.func23, Tryd.ntmps23
  go_wp2_with fail
  refine c.mono ?_; rintro r w2 ⟨rfl, hb2⟩
  go_wp2
  go_ret2
  exact ⟨rfl, hb2⟩

theorem rcomp_true_ok {I : List Nat} {a : Nat → Addr} (va vb : Value) (A B : List A2) (w : World) (hS : Std I a w) (hA : RowA w va A) (hB : RowA w vb B) (zA : NilZ va) (zB : NilZ vb) (sA : Tiny A) (sB : Tiny B) (hl : A.length + B.length + B.length ≤ 1048576) (hE : bothE A true B true = 0) :
    Calls Tryd.prog 23 #[va, vb, .bool true] w fun r w' => ∃ v', r = .returned (.tuple #[v', .int .i64 0]) ∧ OwnA w' w.heap.size v' (jn (chC true) A B) ∧ Below w.heap.size w w' := by
  have c := ref_both va vb A B true true w hS hA hB sA sB (by omega)
  rw [hE] at c
  have hz : listE true none A = 0 ∧ listE true none B = 0 := by
    unfold bothE at hE
    by_cases h : listE true none A = 0
    · rw [if_pos h] at hE; exact ⟨h, hE⟩
    · rw [if_neg h] at hE; exact absurd hE h
  have gA : Pat A := pat_of hz.1
  have gB : Pat B := pat_of hz.2
  have cJ : ∀ W, Below w.heap.size w W → Calls Tryd.prog 55 #[va, vb] W fun r w' => ∃ v', r = .returned v' ∧ OwnA w' W.heap.size v' (jn (chC true) A B) ∧ Below W.heap.size W w' := fun W hW => by
    exact join_ref va vb A B W (hA.below hW) (hB.below hW) zB gA.up gB.up (by omega)
  obtain ⟨pa, ca, rfl, _⟩ := hA.val
  obtain ⟨pb, cb, rfl, _⟩ := hB.val
  clear hA hB hS sA sB hl hE zA zB hz gA gB
  go_enter Tryd.func23, Tryd.ntmps23
  go_wp2_with fail
  refine c.mono ?_; rintro r w2 ⟨rfl, hb2⟩
  have cJ' := cJ _ hb2
  clear cJ c
  go_wp2_with fail
  refine cJ'.mono ?_; rintro r w3 ⟨v', rfl, own, hb3⟩
  have HO : Hid _ := own
  clear own
  go_wp2
  go_ret2
  exact ⟨_, rfl, own_weaken HO.out hb2.size, hb2.trans (hb3.mono hb2.size)⟩

theorem rcomp_false_ok {I : List Nat} {a : Nat → Addr} (va vb : Value) (A B : List A2) (w : World) (hS : Std I a w) (hA : RowA w va A) (hB : RowA w vb B) (zA : NilZ va) (zB : NilZ vb) (sA : Tiny A) (sB : Tiny B) (hl : A.length + B.length + B.length ≤ 1048576) (hE : bothE A true B true = 0) :
    Calls Tryd.prog 23 #[va, vb, .bool false] w fun r w' => ∃ v', r = .returned (.tuple #[v', .int .i64 0]) ∧ OwnA w' w.heap.size v' (jn (chC false) A B) ∧ Below w.heap.size w w' := by
  have c := ref_both va vb A B true true w hS hA hB sA sB (by omega)
  rw [hE] at c
  have hz : listE true none A = 0 ∧ listE true none B = 0 := by
    unfold bothE at hE
    by_cases h : listE true none A = 0
    · rw [if_pos h] at hE; exact ⟨h, hE⟩
    · rw [if_neg h] at hE; exact absurd hE h
  have gA : Pat A := pat_of hz.1
  have gB : Pat B := pat_of hz.2
  have cJ := fun W (hW : Below w.heap.size w W) => join_ref va vb A B W (hA.below hW) (hB.below hW) zB gA.up gB.up (by omega)
  have cW := fun W (v : Value) (hv : RowA W v (jn (chC true) A B)) => whole_any v (jn (chC true) A B) W hv (by have := jn_len (chC true) A B; omega)
  rw [whole_eq gA.up gB.up] at cW
  obtain ⟨pa, ca, rfl, _⟩ := hA.val
  obtain ⟨pb, cb, rfl, _⟩ := hB.val
  clear hA hB hS sA sB hl hE zA zB hz gA gB
  go_enter Tryd.func23, Tryd.ntmps23
  go_wp2_with fail
  refine c.mono ?_; rintro r w2 ⟨rfl, hb2⟩
  have cJ' := cJ _ hb2
  clear cJ c
  go_wp2_with fail
  refine cJ'.mono ?_; rintro r w3 ⟨v', rfl, own, hb3⟩
  have cW' := cW w3 v' (own_rowA own)
  clear cW own
  go_wp2_with fail
  refine cW'.mono ?_; rintro r w4 ⟨v2, rfl, own, hb4⟩
  have HO : Hid _ := own
  clear own
  go_wp2
  go_ret2
  have h23 := hb2.trans (hb3.mono hb2.size)
  exact ⟨_, rfl, own_weaken HO.out h23.size, h23.trans (hb4.mono h23.size)⟩
end Go.Proofs.YtbbkbfcgjljmkaaDoor
