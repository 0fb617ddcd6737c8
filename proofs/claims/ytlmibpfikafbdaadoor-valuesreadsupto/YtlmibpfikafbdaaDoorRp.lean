/- What the reference of layer 2 answers: Parse. -/
import Derived.Test.YtlmibpfikafbdaaDoorRz
namespace Go.Proofs.YtlmibpfikafbdaaDoor
open Go Go.RowKit Go.Lib
set_option linter.unusedVariables false

theorem rparse_null (w : World) : Calls Tryd.prog 21 #[.string sNull] w fun e w' => e = .returned (.tuple #[pl 0 0 ⟨#[]⟩, .int .i64 0]) ∧ Below w.heap.size w w' := by
  go_enter Tryd.func21, Tryd.ntmps21
  unfold sNull
  go_wp2
  exact bodyPost_ret (v := .tuple #[pl 0 0 ⟨#[]⟩, .int .i64 0]) (by simp [results, Tryd.results21, go_sem]) rfl ⟨rfl, by go_grown⟩
theorem rparse_true (w : World) : Calls Tryd.prog 21 #[.string sTrue] w fun e w' => e = .returned (.tuple #[pl 1 1 ⟨#[]⟩, .int .i64 0]) ∧ Below w.heap.size w w' := by
  go_enter Tryd.func21, Tryd.ntmps21
  unfold sTrue
  go_wp2
  exact bodyPost_ret (v := .tuple #[pl 1 1 ⟨#[]⟩, .int .i64 0]) (by simp [results, Tryd.results21, go_sem]) rfl ⟨rfl, by go_grown⟩
theorem rparse_false (w : World) : Calls Tryd.prog 21 #[.string sFalse] w fun e w' => e = .returned (.tuple #[pl 1 0 ⟨#[]⟩, .int .i64 0]) ∧ Below w.heap.size w w' := by
  go_enter Tryd.func21, Tryd.ntmps21
  unfold sFalse
  go_wp2
  exact bodyPost_ret (v := .tuple #[pl 1 0 ⟨#[]⟩, .int .i64 0]) (by simp [results, Tryd.results21, go_sem]) rfl ⟨rfl, by go_grown⟩

theorem rparse_quote (s D : ByteArray) (w : World) (hs : s.size ≤ 35184372087808) (h1 : s ≠ sNull) (h2 : s ≠ sTrue) (h3 : s ≠ sFalse) (h0 : (0 : Int) < s.size) (h0' : 0 < s.size) (hq : ((s[0].toNat : Int) == 39) = true) (hD : s.extract 1 s.size = D) (hDs : D.size ≤ 35184372087808) (he : txtE D = 0) :
    Calls Tryd.prog 21 #[.string s] w fun e w' => e = .returned (.tuple #[pl 3 0 D, .int .i64 0]) ∧ Below w.heap.size w w' := by
  have e1 : (s.toList == [110, 117, 108, 108]) = false := ne_lit h1
  have e2 : (s.toList == [116, 114, 117, 101]) = false := ne_lit h2
  have e3 : (s.toList == [102, 97, 108, 115, 101]) = false := ne_lit h3
  have c := fun W => ref_txt D W hDs
  rw [he] at c
  clear h1 h2 h3 he
  go_enter Tryd.func21, Tryd.ntmps21
  go_wp2_with fail
  refine (c _).mono ?_; rintro r w1 ⟨rfl, b1⟩
  have q0 : w1.cell? ⟨w.heap.size, 0, none⟩ = some (.int .i64 0) := by rw [b1.cell (by simp)]; simp
  have q1 : w1.cell? ⟨w.heap.size, 1, none⟩ = some (.int .i64 0) := by rw [b1.cell (by simp)]; simp
  have q2 : w1.cell? ⟨w.heap.size, 2, none⟩ = some (.string ⟨#[]⟩) := by rw [b1.cell (by simp)]; simp
  have f0 : w1.frozen? ⟨w.heap.size, 0, none⟩ = false := by rw [b1.frozen (by simp)]; simp
  have f1 : w1.frozen? ⟨w.heap.size, 1, none⟩ = false := by rw [b1.frozen (by simp)]; simp
  have f2 : w1.frozen? ⟨w.heap.size, 2, none⟩ = false := by rw [b1.frozen (by simp)]; simp
  have b2 : Below w.heap.size w w1 := Below.trans ((Below.refl _ _).alloc (Nat.le_refl _) _) (b1.mono (by simp))
  have z2 : w.heap.size < w1.heap.size := lt_of_cell q0
  go_wp2
  exact bodyPost_ret (v := .tuple #[pl 3 0 D, .int .i64 0]) (by simp [results, Tryd.results21, go_sem, q0, q1, q2]) rfl ⟨rfl, by first | exact ((b2.setCell (Nat.le_refl _) _).setCell (Nat.le_refl _) _).setCell (Nat.le_refl _) _ | go_grown⟩

theorem rparse_quote_no (s D : ByteArray) (w : World) (hs : s.size ≤ 35184372087808) (h1 : s ≠ sNull) (h2 : s ≠ sTrue) (h3 : s ≠ sFalse) (h0 : (0 : Int) < s.size) (h0' : 0 < s.size) (hq : ((s[0].toNat : Int) == 39) = true) (hD : s.extract 1 s.size = D) (hDs : D.size ≤ 35184372087808) (E : Int) (hE : (txtE D : Int) = E) (hz : (E != 0) = true) :
    Calls Tryd.prog 21 #[.string s] w fun e w' => e = .returned (.tuple #[pl 0 0 ⟨#[]⟩, .int .i64 E]) ∧ Below w.heap.size w w' := by
  have e1 : (s.toList == [110, 117, 108, 108]) = false := ne_lit h1
  have e2 : (s.toList == [116, 114, 117, 101]) = false := ne_lit h2
  have e3 : (s.toList == [102, 97, 108, 115, 101]) = false := ne_lit h3
  have c := fun W => ref_txt D W hDs
  rw [hE] at c
  clear h1 h2 h3 hE
  go_enter Tryd.func21, Tryd.ntmps21
  go_wp2_with fail
  refine (c _).mono ?_; rintro r w1 ⟨rfl, b1⟩
  have q0 : w1.cell? ⟨w.heap.size, 0, none⟩ = some (.int .i64 0) := by rw [b1.cell (by simp)]; simp
  have q1 : w1.cell? ⟨w.heap.size, 1, none⟩ = some (.int .i64 0) := by rw [b1.cell (by simp)]; simp
  have q2 : w1.cell? ⟨w.heap.size, 2, none⟩ = some (.string ⟨#[]⟩) := by rw [b1.cell (by simp)]; simp
  have f0 : w1.frozen? ⟨w.heap.size, 0, none⟩ = false := by rw [b1.frozen (by simp)]; simp
  have f1 : w1.frozen? ⟨w.heap.size, 1, none⟩ = false := by rw [b1.frozen (by simp)]; simp
  have f2 : w1.frozen? ⟨w.heap.size, 2, none⟩ = false := by rw [b1.frozen (by simp)]; simp
  have b2 : Below w.heap.size w w1 := Below.trans ((Below.refl _ _).alloc (Nat.le_refl _) _) (b1.mono (by simp))
  have z2 : w.heap.size < w1.heap.size := lt_of_cell q0
  go_wp2
  exact bodyPost_ret (v := .tuple #[pl 0 0 ⟨#[]⟩, .int .i64 E]) (by simp [results, Tryd.results21, go_sem, q0, q1, q2]) rfl ⟨rfl, by first | exact ((b2.setCell (Nat.le_refl _) _).setCell (Nat.le_refl _) _).setCell (Nat.le_refl _) _ | go_grown⟩

/-- Behind the texts that are words, with no quote ahead: what Digits and Whole say. -/
theorem rparse_num (s : ByteArray) (w : World) (hs : s.size ≤ 35184372087808) (h1 : s ≠ sNull) (h2 : s ≠ sTrue) (h3 : s ≠ sFalse) (h0 : (0 : Int) < s.size) (h0' : 0 < s.size) (hq : ((s[0].toNat : Int) == 39) = false) (b : Bool) (hb : isDec s.data.toList = b) (z : Int) (hz : valZ s.data.toList = z) (o : Bool) (ho : rngB z = o) (P E : Value)
    (hP : P = if b then (if o then pl 2 z ⟨#[]⟩ else pl 0 0 ⟨#[]⟩) else pl 0 0 ⟨#[]⟩) (hE : E = if b then (if o then .int .i64 0 else .int .i64 4) else .int .i64 5) :
    Calls Tryd.prog 21 #[.string s] w fun e w' => e = .returned (.tuple #[P, E]) ∧ Below w.heap.size w w' := by
  have e1 : (s.toList == [110, 117, 108, 108]) = false := ne_lit h1
  have e2 : (s.toList == [116, 114, 117, 101]) = false := ne_lit h2
  have e3 : (s.toList == [102, 97, 108, 115, 101]) = false := ne_lit h3
  have c := fun W => ref_digits s W (by omega)
  rw [hb] at c
  cases b
  · simp only [Bool.false_eq_true, if_false] at hP hE
    subst hP hE
    clear h1 h2 h3 hb hz ho
    go_enter Tryd.func21, Tryd.ntmps21
    go_wp2_with (go_at_call 36; refine (c _).mono ?_; rintro r w1 ⟨rfl, rfl⟩)
    exact bodyPost_ret (v := .tuple #[pl 0 0 ⟨#[]⟩, .int .i64 5]) (by simp [results, Tryd.results21, go_sem]) rfl ⟨rfl, by go_grown⟩
  · have d := fun W => ref_whole s W (by omega) hb
    rw [hz, whV, ho] at d
    simp only [if_true] at hP hE
    cases o
    · simp only [Bool.false_eq_true, if_false] at hP hE d
      subst hP hE
      clear h1 h2 h3 hb hz ho
      go_enter Tryd.func21, Tryd.ntmps21
      go_wp2_with (first
        | (go_at_call 36; refine (c _).mono ?_; rintro r w1 ⟨rfl, rfl⟩)
        | (go_at_call 37; refine (d _).mono ?_; rintro r w1 ⟨rfl, rfl⟩))
      exact bodyPost_ret (v := .tuple #[pl 0 0 ⟨#[]⟩, .int .i64 4]) (by simp [results, Tryd.results21, go_sem]) rfl ⟨rfl, by go_grown⟩
    · simp only [if_true] at hP hE d
      subst hP hE
      clear h1 h2 h3 hb hz ho
      go_enter Tryd.func21, Tryd.ntmps21
      go_wp2_with (first
        | (go_at_call 36; refine (c _).mono ?_; rintro r w1 ⟨rfl, rfl⟩)
        | (go_at_call 37; refine (d _).mono ?_; rintro r w1 ⟨rfl, rfl⟩))
      exact bodyPost_ret (v := .tuple #[pl 2 z ⟨#[]⟩, .int .i64 0]) (by simp [results, Tryd.results21, go_sem]) rfl ⟨rfl, by go_grown⟩

theorem rparse_empty (w : World) : Calls Tryd.prog 21 #[.string ⟨#[]⟩] w fun e w' => e = .returned (.tuple #[pl 0 0 ⟨#[]⟩, .int .i64 5]) ∧ Below w.heap.size w w' := by
  have c := fun W => ref_digits ⟨#[]⟩ W (Nat.zero_le _)
  rw [show isDec (ByteArray.mk #[]).data.toList = false from rfl] at c
  go_enter Tryd.func21, Tryd.ntmps21
  go_wp2_with (go_at_call 36; refine (c _).mono ?_; rintro r w1 ⟨rfl, rfl⟩)
  exact bodyPost_ret (v := .tuple #[pl 0 0 ⟨#[]⟩, .int .i64 5]) (by simp [results, Tryd.results21, go_sem]) rfl ⟨rfl, by go_grown⟩

theorem ref_parse (s : ByteArray) (w : World) (hs : s.size ≤ 35184372087808) :
    Calls Tryd.prog 21 #[.string s] w fun e w' => e = .returned (.tuple #[pl (prs s).2.1 (prs s).2.2.1 (prs s).2.2.2, .int .i64 (prs s).1]) ∧ Below w.heap.size w w' := by
  by_cases h1 : s = sNull
  · subst h1; exact rparse_null w
  by_cases h2 : s = sTrue
  · subst h2
    have e : prs sTrue = (0, 1, 1, ⟨#[]⟩) := by rw [prs, if_neg h1, if_pos rfl]
    rw [e]; exact rparse_true w
  by_cases h3 : s = sFalse
  · subst h3
    have e : prs sFalse = (0, 1, 0, ⟨#[]⟩) := by rw [prs, if_neg h1, if_neg h2, if_pos rfl]
    rw [e]; exact rparse_false w
  rcases Nat.eq_zero_or_pos s.size with h0 | h0
  · obtain rfl : s = ⟨#[]⟩ := by
      have : s.data.toList = [] := List.eq_nil_of_length_eq_zero (by rw [size_toList]; exact h0)
      apply ByteArray.ext; apply Array.ext'; rw [this]
    have e : prs ⟨#[]⟩ = (5, 0, 0, ⟨#[]⟩) := by rw [prs, if_neg h1, if_neg h2, if_neg h3, if_neg (by decide)]; rfl
    rw [e]; exact rparse_empty w
  have hh : s.data.toList.head? = some s[0] := by
    rw [List.head?_eq_getElem?, List.getElem?_eq_getElem (by rw [size_toList]; exact h0)]; rfl
  by_cases h4 : s.data.toList.head? = some 39
  · have hz := tlB_size s
    have h39 : s[0] = 39 := by rw [hh] at h4; simpa using h4
    have e1 : ((s[0].toNat : Int) == 39) = true := by rw [h39]; rfl
    by_cases h5 : txtE (tlB s) = 0
    · have e : prs s = (0, 3, 0, tlB s) := by rw [prs, if_neg h1, if_neg h2, if_neg h3, if_pos h4, if_pos h5]
      rw [e]
      exact rparse_quote s (tlB s) w hs h1 h2 h3 (by omega) h0 e1 (tl_extract s) (by omega) h5
    · have e : prs s = (txtE (tlB s), 0, 0, ⟨#[]⟩) := by rw [prs, if_neg h1, if_neg h2, if_neg h3, if_pos h4, if_neg h5]
      rw [e]
      exact rparse_quote_no s (tlB s) w hs h1 h2 h3 (by omega) h0 e1 (tl_extract s) (by omega) _ rfl (by simp; omega)
  · have h39 : ((s[0].toNat : Int) == 39) = false := by
      have : s[0].toNat ≠ 39 := fun e => h4 (by rw [hh]; exact congrArg some (UInt8.toNat_inj.1 e))
      simp; omega
    refine rparse_num s w hs h1 h2 h3 (by omega) h0 h39 _ rfl _ rfl _ rfl _ _ ?_ ?_
    · rw [prs, if_neg h1, if_neg h2, if_neg h3, if_neg h4]
      cases isDec s.data.toList
      · rfl
      · cases rngB (valZ s.data.toList) <;> rfl
    · rw [prs, if_neg h1, if_neg h2, if_neg h3, if_neg h4]
      cases isDec s.data.toList
      · rfl
      · cases rngB (valZ s.data.toList) <;> rfl
end Go.Proofs.YtlmibpfikafbdaaDoor
