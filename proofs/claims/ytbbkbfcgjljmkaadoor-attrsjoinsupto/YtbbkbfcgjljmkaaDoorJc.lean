/- The five calls of the program and of the document, their numbers and lists. -/
import Derived.Test.YtbbkbfcgjljmkaaDoorRs
import Derived.Test.YtbbkbfcgjljmkaaDoorLf
namespace Go.Proofs.YtbbkbfcgjljmkaaDoor
open Go Go.RowKit Go.Lib
set_option linter.unusedVariables false

def resL (E : Nat) (L : List A2) : List A2 := if E = 0 then L else []
theorem resL_len (E : Nat) (L : List A2) : (resL E L).length ≤ L.length := by
  unfold resL; split <;> simp
theorem chk_le10 (k n : Int) (t : ByteArray) : chk k n t ≤ 10 := by
  unfold chk txtE
  split
  · split
    · split <;> omega
    · omega
  · omega
theorem pairE_le (q : A2) : pairE q ≤ 10 := by
  unfold pairE
  split
  · omega
  · split
    · omega
    · exact chk_le10 _ _ _
theorem listE_le (nulls : Bool) : ∀ (L : List A2) (pv : Option ByteArray), listE nulls pv L ≤ 10
  | [], _ => Nat.zero_le _
  | q :: r, pv => by
    rw [listE]
    split
    · split
      · omega
      · split
        · exact listE_le nulls r _
        · omega
    · exact pairE_le q
theorem bothE_le (A : List A2) (na : Bool) (B : List A2) (nb : Bool) : bothE A na B nb ≤ 19 := by
  unfold bothE
  have h1 := listE_le na A none
  have h2 := listE_le nb B none
  split <;> omega
/-- What a call of the program's answers of two lists, from a world on. -/
def CX (f : FuncId) (args : Value → Value → Array Value) (w : World) (a : Nat → Addr) (A B : List A2) (E : Nat) (L : List A2) : Prop :=
  ∀ W v8 v9, Below w.heap.size w W → RowA W v8 A → RowA W v9 B → Calls Tryd.prog f (args v8 v9) W fun r w' => ∃ v', r = .returned (.tuple #[v', errOf a E]) ∧ RowA w' v' L ∧ Below W.heap.size W w'
/-- What a call of the document's answers. -/
def CR (f : FuncId) (args : Array Value) (w : World) (E : Nat) (L : List A2) : Prop :=
  ∀ W, Below w.heap.size w W → Calls Tryd.prog f args W fun r w' => ∃ v', r = .returned (.tuple #[v', .int .i64 E]) ∧ RowA w' v' L ∧ Below W.heap.size W w'

theorem cx_comp {I : List Nat} {a : Nat → Addr} (nulls : Bool) (A B : List A2) (w : World) (hI : ∀ i ∈ IX, i ∈ I) (hS : Std I a w) (sA : Small A) (sB : Small B) (hl : A.length + B.length ≤ 1048576) :
    CX 22 (fun v8 v9 => #[v8, v9, .bool nulls]) w a A B (bothE A true B true) (resL (bothE A true B true) (jn (chC nulls) A B)) := fun W v8 v9 hW hA hB => by
  unfold resL
  cases h : bothE A true B true with
  | zero => exact (comp_ok nulls v8 v9 A B W hI (hS.below hW) hA hB sA sB hl h).mono fun r w' ⟨v', h1, h2, h3⟩ => ⟨v', h1, by rw [if_pos rfl]; exact own_rowA h2, h3⟩
  | succ e => exact (comp_no nulls v8 v9 A B W hI (hS.below hW) hA hB sA sB hl e h).mono fun r w' ⟨h1, h3⟩ => ⟨_, h1, by rw [if_neg (by omega)]; exact RowA.nil _ _ _, h3⟩
theorem cr_comp {I : List Nat} {a : Nat → Addr} (nulls : Bool) (va vb : Value) (A B : List A2) (w : World) (hS : Std I a w) (hA : RowA w va A) (hB : RowA w vb B) (zA : NilZ va) (zB : NilZ vb) (sA : Tiny A) (sB : Tiny B) (hl : A.length + B.length + B.length ≤ 1048576) :
    CR 23 #[va, vb, .bool nulls] w (bothE A true B true) (resL (bothE A true B true) (jn (chC nulls) A B)) := fun W hW => by
  unfold resL
  cases nulls
  · by_cases h : bothE A true B true = 0
    · rw [h, if_pos rfl]
      exact (rcomp_false_ok va vb A B W (hS.below hW) (hA.below hW) (hB.below hW) zA zB sA sB hl h).mono fun r w' ⟨v', h1, h2, h3⟩ => ⟨v', h1, own_rowA h2, h3⟩
    · rw [if_neg h]
      exact (rcomp_no false va vb A B W (hS.below hW) (hA.below hW) (hB.below hW) zA zB sA sB hl h).mono fun r w' ⟨h1, h3⟩ => ⟨_, h1, RowA.nil _ _ _, h3⟩
  · by_cases h : bothE A true B true = 0
    · rw [h, if_pos rfl]
      exact (rcomp_true_ok va vb A B W (hS.below hW) (hA.below hW) (hB.below hW) zA zB sA sB hl h).mono fun r w' ⟨v', h1, h2, h3⟩ => ⟨v', h1, own_rowA h2, h3⟩
    · rw [if_neg h]
      exact (rcomp_no true va vb A B W (hS.below hW) (hA.below hW) (hB.below hW) zA zB sA sB hl h).mono fun r w' ⟨h1, h3⟩ => ⟨_, h1, RowA.nil _ _ _, h3⟩

theorem cx_appl {I : List Nat} {a : Nat → Addr} (A B : List A2) (w : World) (hI : ∀ i ∈ IX, i ∈ I) (hS : Std I a w) (sA : Small A) (sB : Small B) (hl : A.length + B.length ≤ 1048576) :
    CX 24 (fun v8 v9 => #[v8, v9]) w a A B (bothE A false B true) (resL (bothE A false B true) (jn (chC false) A B)) := fun W v8 v9 hW hA hB => by
  unfold resL
  cases h : bothE A false B true with
  | zero => exact (appl_ok v8 v9 A B W hI (hS.below hW) hA hB sA sB hl h).mono fun r w' ⟨v', h1, h2, h3⟩ => ⟨v', h1, by rw [if_pos rfl]; exact own_rowA h2, h3⟩
  | succ e => exact (appl_no v8 v9 A B W hI (hS.below hW) hA hB sA sB hl e h).mono fun r w' ⟨h1, h3⟩ => ⟨_, h1, by rw [if_neg (by omega)]; exact RowA.nil _ _ _, h3⟩
theorem cr_appl {I : List Nat} {a : Nat → Addr} (va vb : Value) (A B : List A2) (w : World) (hS : Std I a w) (hA : RowA w va A) (hB : RowA w vb B) (zA : NilZ va) (zB : NilZ vb) (sA : Tiny A) (sB : Tiny B) (hl : A.length + B.length + B.length ≤ 1048576) :
    CR 25 #[va, vb] w (bothE A false B true) (resL (bothE A false B true) (jn (chC false) A B)) := fun W hW => by
  unfold resL
  by_cases h : bothE A false B true = 0
  · rw [h, if_pos rfl]
    exact (rappl_ok va vb A B W (hS.below hW) (hA.below hW) (hB.below hW) zA zB sA sB hl h).mono fun r w' ⟨v', h1, h2, h3⟩ => ⟨v', h1, own_rowA h2, h3⟩
  · rw [if_neg h]
    exact (rappl_no va vb A B W (hS.below hW) (hA.below hW) (hB.below hW) zA zB sA sB hl h).mono fun r w' ⟨h1, h3⟩ => ⟨_, h1, RowA.nil _ _ _, h3⟩

theorem cx_diff {I : List Nat} {a : Nat → Addr} (A B : List A2) (w : World) (hI : ∀ i ∈ IX, i ∈ I) (hS : Std I a w) (sA : Small A) (sB : Small B) (hl : A.length + B.length ≤ 1048576) :
    CX 26 (fun v8 v9 => #[v8, v9]) w a A B (bothE A false B false) (resL (bothE A false B false) (jn chD A B)) := fun W v8 v9 hW hA hB => by
  unfold resL
  cases h : bothE A false B false with
  | zero => exact (diff_ok v8 v9 A B W hI (hS.below hW) hA hB sA sB hl h).mono fun r w' ⟨v', h1, h2, h3⟩ => ⟨v', h1, by rw [if_pos rfl]; exact own_rowA h2, h3⟩
  | succ e => exact (diff_no v8 v9 A B W hI (hS.below hW) hA hB sA sB hl e h).mono fun r w' ⟨h1, h3⟩ => ⟨_, h1, by rw [if_neg (by omega)]; exact RowA.nil _ _ _, h3⟩
theorem cr_diff {I : List Nat} {a : Nat → Addr} (va vb : Value) (A B : List A2) (w : World) (hS : Std I a w) (hA : RowA w va A) (hB : RowA w vb B) (zA : NilZ va) (zB : NilZ vb) (sA : Tiny A) (sB : Tiny B) (hl : A.length + B.length + B.length ≤ 1048576) :
    CR 27 #[va, vb] w (bothE A false B false) (resL (bothE A false B false) (jn chD A B)) := fun W hW => by
  unfold resL
  by_cases h : bothE A false B false = 0
  · rw [h, if_pos rfl]
    exact (rdiff_ok va vb A B W (hS.below hW) (hA.below hW) (hB.below hW) zA zB sA sB hl h).mono fun r w' ⟨v', h1, h2, h3⟩ => ⟨v', h1, own_rowA h2, h3⟩
  · rw [if_neg h]
    exact (rdiff_no va vb A B W (hS.below hW) (hA.below hW) (hB.below hW) zA zB sA sB hl h).mono fun r w' ⟨h1, h3⟩ => ⟨_, h1, RowA.nil _ _ _, h3⟩

theorem cx_inve {I : List Nat} {a : Nat → Addr} (A B : List A2) (w : World) (hI : ∀ i ∈ IX, i ∈ I) (hS : Std I a w) (sA : Small A) (sB : Small B) (hl : A.length + B.length ≤ 1048576) :
    CX 28 (fun v8 v9 => #[v8, v9]) w a A B (bothE A true B false) (resL (bothE A true B false) (jn chI A B)) := fun W v8 v9 hW hA hB => by
  unfold resL
  cases h : bothE A true B false with
  | zero => exact (inve_ok v8 v9 A B W hI (hS.below hW) hA hB sA sB hl h).mono fun r w' ⟨v', h1, h2, h3⟩ => ⟨v', h1, by rw [if_pos rfl]; exact own_rowA h2, h3⟩
  | succ e => exact (inve_no v8 v9 A B W hI (hS.below hW) hA hB sA sB hl e h).mono fun r w' ⟨h1, h3⟩ => ⟨_, h1, by rw [if_neg (by omega)]; exact RowA.nil _ _ _, h3⟩
theorem cr_inve {I : List Nat} {a : Nat → Addr} (va vb : Value) (A B : List A2) (w : World) (hS : Std I a w) (hA : RowA w va A) (hB : RowA w vb B) (zA : NilZ va) (zB : NilZ vb) (sA : Tiny A) (sB : Tiny B) (hl : A.length + B.length + B.length ≤ 1048576) :
    CR 29 #[va, vb] w (bothE A true B false) (resL (bothE A true B false) (jn chI A B)) := fun W hW => by
  unfold resL
  by_cases h : bothE A true B false = 0
  · rw [h, if_pos rfl]
    exact (rinve_ok va vb A B W (hS.below hW) (hA.below hW) (hB.below hW) zA zB sA sB hl h).mono fun r w' ⟨v', h1, h2, h3⟩ => ⟨v', h1, own_rowA h2, h3⟩
  · rw [if_neg h]
    exact (rinve_no va vb A B W (hS.below hW) (hA.below hW) (hB.below hW) zA zB sA sB hl h).mono fun r w' ⟨h1, h3⟩ => ⟨_, h1, RowA.nil _ _ _, h3⟩

theorem cx_tran {I : List Nat} {a : Nat → Addr} (first : Bool) (A B : List A2) (w : World) (hI : ∀ i ∈ IX, i ∈ I) (hS : Std I a w) (sA : Small A) (sB : Small B) (hl : A.length + B.length ≤ 1048576) :
    CX 30 (fun v8 v9 => #[v8, v9, .bool first]) w a A B (bothE A true B true) (resL (bothE A true B true) (jn (chT first) A B)) := fun W v8 v9 hW hA hB => by
  unfold resL
  cases h : bothE A true B true with
  | zero => exact (tran_ok first v8 v9 A B W hI (hS.below hW) hA hB sA sB hl h).mono fun r w' ⟨v', h1, h2, h3⟩ => ⟨v', h1, by rw [if_pos rfl]; exact own_rowA h2, h3⟩
  | succ e => exact (tran_no first v8 v9 A B W hI (hS.below hW) hA hB sA sB hl e h).mono fun r w' ⟨h1, h3⟩ => ⟨_, h1, by rw [if_neg (by omega)]; exact RowA.nil _ _ _, h3⟩
theorem cr_tran {I : List Nat} {a : Nat → Addr} (first : Bool) (va vb : Value) (A B : List A2) (w : World) (hS : Std I a w) (hA : RowA w va A) (hB : RowA w vb B) (zA : NilZ va) (zB : NilZ vb) (sA : Tiny A) (sB : Tiny B) (hl : A.length + B.length + B.length ≤ 1048576) :
    CR 31 #[va, vb, .bool first] w (bothE A true B true) (resL (bothE A true B true) (jn (chT first) A B)) := fun W hW => by
  unfold resL
  by_cases h : bothE A true B true = 0
  · rw [h, if_pos rfl]
    exact (rtran_ok first va vb A B W (hS.below hW) (hA.below hW) (hB.below hW) zA zB sA sB hl h).mono fun r w' ⟨v', h1, h2, h3⟩ => ⟨v', h1, own_rowA h2, h3⟩
  · rw [if_neg h]
    exact (rtran_no first va vb A B W (hS.below hW) (hA.below hW) (hB.below hW) zA zB sA sB hl h).mono fun r w' ⟨h1, h3⟩ => ⟨_, h1, RowA.nil _ _ _, h3⟩
end Go.Proofs.YtbbkbfcgjljmkaaDoor
