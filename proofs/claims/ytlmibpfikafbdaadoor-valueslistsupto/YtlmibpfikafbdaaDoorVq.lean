/- What values.number and values.Parse answer. -/
import Derived.Test.YtlmibpfikafbdaaDoorVp
namespace Go.Proofs.YtlmibpfikafbdaaDoor
open Go Go.RowKit Go.Lib
set_option linter.unusedVariables false

def rngB (z : Int) : Bool := decide (-9223372036854775808 ≤ z) && decide (z ≤ 9223372036854775807)
theorem rngB_iff {z : Int} : rngB z = true ↔ -9223372036854775808 ≤ z ∧ z ≤ 9223372036854775807 := by simp [rngB]

theorem number_no {I : List Nat} {a : Nat → Addr} (s : ByteArray) (w : World) (hI : 4 ∈ I) (hS : Std I a w) (hs : s.size ≤ 9223372036854775806) (h : isDec s.data.toList = false) :
    Calls Tryd.prog 35 #[.string s] w fun e w' => e = .returned (.tuple #[.nilIface, errV a 4]) ∧ Below w.heap.size w w' := by
  have c := fun W => isdec_any s W hs
  rw [h] at c
  have hc : w.cell? ⟨0, 0, none⟩ = some (errV a 4) := hS.er.cell 4 hI
  clear hS h hI
  go_enter Tryd.func35, Tryd.ntmps35
  go_wp2_with (go_at_call 47; refine (c _).mono ?_; rintro e w' ⟨rfl, rfl⟩)
  go_quiet (fail)
  go_wp2
  go_ret2
  exact ⟨rfl, below_drewN (Below.refl _ _) _⟩

theorem number_ok (s : ByteArray) (w : World) (hs : s.size ≤ 281474976710656) (h : isDec s.data.toList = true) (hr : rngB (valZ s.data.toList) = true) :
    Calls Tryd.prog 35 #[.string s] w fun e w' => e = .returned (.tuple #[.iface 50 (.int .i64 (valZ s.data.toList)), .nilIface]) ∧ Below w.heap.size w w' := by
  have c := fun W => isdec_any s W (by omega)
  rw [h] at c
  have d := fun W => Tryd.strconv_ParseInt_10_at64_ok s (by omega) (valZ s.data.toList) ((parseIntB_dec h).1 (rngB_iff.1 hr)) W
  obtain ⟨z, hz⟩ : ∃ z, valZ s.data.toList = z := ⟨_, rfl⟩
  rw [hz] at d ⊢
  clear h hr hz
  go_enter Tryd.func35, Tryd.ntmps35
  go_wp2_with (first
    | (go_at_call 47; refine (c _).mono ?_; rintro e w' ⟨rfl, rfl⟩)
    | (go_at_call 48; refine (d _).mono ?_; rintro e w2 ⟨rfl, hw⟩; have hb : Below w'.heap.size w' w2 := (by rcases hw with rfl | ⟨t, rfl⟩; exact Below.refl _ _; exact Lib.bytesWorld_below _ _ _); clear hw))
  go_ret2
  exact ⟨rfl, hb⟩

theorem number_out {I : List Nat} {a : Nat → Addr} (s : ByteArray) (w : World) (hI : 3 ∈ I) (hS : Std I a w) (hT : Strc w) (hs : s.size ≤ 281474976710656) (h : isDec s.data.toList = true) (hr : rngB (valZ s.data.toList) = false) :
    Calls Tryd.prog 35 #[.string s] w fun e w' => e = .returned (.tuple #[.nilIface, errV a 3]) ∧ Below w.heap.size w w' := by
  have c := fun W => isdec_any s W (by omega)
  rw [h] at c
  obtain ⟨te, pe, hv⟩ := hT.rng
  have d := Tryd.strconv_ParseInt_10_at64_range s hs ((parseIntB_dec h).2 (fun h' => by rw [rngB_iff.2 h'] at hr; cases hr)) (.iface te pe) w hv (Or.inr ⟨te, pe, rfl⟩)
  generalize intSat 64 s.data.toList = sat at d
  have hg : ∀ W, Below w.heap.size w W → W.cell? ⟨5, 0, none⟩ = some (errV a 3) := fun W hW => (hS.below hW).er.cell 3 hI
  clear hS h hI hr hT hv
  go_enter Tryd.func35, Tryd.ntmps35
  go_wp2_with (first
    | (go_at_call 47; refine (c _).mono ?_; rintro e w' ⟨rfl, rfl⟩)
    | (go_at_call 48; refine d.mono ?_; rintro e w2 ⟨N, rfl, _, _, hb⟩; have hg2 := hg _ hb))
  go_quiet (fail)
  go_wp2
  go_ret2
  exact ⟨rfl, below_drewN hb _⟩

/-- A text without its first byte. -/
def tlB (s : ByteArray) : ByteArray := ⟨s.data.toList.tail.toArray⟩
/-- What a text says: the error's number, the Kind, the Number, the Text. -/
def prs (s : ByteArray) : Nat × Int × Int × ByteArray :=
  if s = sNull then (0, 0, 0, ⟨#[]⟩) else if s = sTrue then (0, 1, 1, ⟨#[]⟩) else if s = sFalse then (0, 1, 0, ⟨#[]⟩)
  else if s.data.toList.head? = some 39 then (if txtE (tlB s) = 0 then (0, 3, 0, tlB s) else (txtE (tlB s), 0, 0, ⟨#[]⟩))
  else if isDec s.data.toList then (if rngB (valZ s.data.toList) then (0, 2, valZ s.data.toList, ⟨#[]⟩) else (4, 0, 0, ⟨#[]⟩)) else (5, 0, 0, ⟨#[]⟩)
def resV (p : Nat × Int × Int × ByteArray) : Value := if p.1 = 0 then valOf p.2.1 p.2.2.1 p.2.2.2 else .nilIface

theorem trim_quote {l : List UInt8} (h : l.head? = some 39) : trimPrefix l [39] = l.tail ∧ hasPrefix l [39] = true := by
  cases l with
  | nil => cases h
  | cons c r =>
    obtain rfl : c = 39 := by simpa using h
    simp [trimPrefix, hasPrefix, List.isPrefixOf]
theorem trim_noquote {l : List UInt8} (h : l.head? ≠ some 39) : trimPrefix l [39] = l ∧ hasPrefix l [39] = false := by
  cases l with
  | nil => simp [trimPrefix, hasPrefix, List.isPrefixOf]
  | cons c r =>
    have hc : ¬ (39 : UInt8) = c := fun e => h (by rw [← e]; rfl)
    simp [trimPrefix, hasPrefix, List.isPrefixOf, hc]
theorem tlB_size (s : ByteArray) : (tlB s).size ≤ s.size := by
  rw [← size_toList, ← size_toList, tlB]; simp

theorem ne_lit {s c : ByteArray} (h : s ≠ c) : (s.toList == c.data.toList) = false := by
  rw [toList_data]
  have : s.data.toList ≠ c.data.toList := fun e => h (ByteArray.ext (Array.ext' e))
  simpa using this

theorem parse_null (w : World) : Calls Tryd.prog 20 #[.string sNull] w fun e w' => e = .returned (.tuple #[.iface 52 (.agg #[]), .nilIface]) ∧ Below w.heap.size w w' := by
  go_enter Tryd.func20, Tryd.ntmps20
  unfold sNull
  go_wp2
  go_ret2
  exact ⟨rfl, Below.refl _ _⟩
theorem parse_true (w : World) : Calls Tryd.prog 20 #[.string sTrue] w fun e w' => e = .returned (.tuple #[.iface 54 (.bool true), .nilIface]) ∧ Below w.heap.size w w' := by
  go_enter Tryd.func20, Tryd.ntmps20
  unfold sTrue
  go_wp2
  go_ret2
  exact ⟨rfl, Below.refl _ _⟩
theorem parse_false (w : World) : Calls Tryd.prog 20 #[.string sFalse] w fun e w' => e = .returned (.tuple #[.iface 54 (.bool false), .nilIface]) ∧ Below w.heap.size w w' := by
  go_enter Tryd.func20, Tryd.ntmps20
  unfold sFalse
  go_wp2
  go_ret2
  exact ⟨rfl, Below.refl _ _⟩

/-- Behind a quote: what Of answers for the rest. -/
theorem parse_quote {V E : Value} (s : ByteArray) (w : World) (h1 : s ≠ sNull) (h2 : s ≠ sTrue) (h3 : s ≠ sFalse) (h : s.data.toList.head? = some 39)
    (d : ∀ W, Below w.heap.size w W → Calls Tryd.prog 11 #[pl 3 0 (tlB s)] W fun e w' => e = .returned (.tuple #[V, E]) ∧ Below w.heap.size w w') :
    Calls Tryd.prog 20 #[.string s] w fun e w' => e = .returned (.tuple #[V, E]) ∧ Below w.heap.size w w' := by
  have e1 : (s.toList == [110, 117, 108, 108]) = false := ne_lit h1
  have e2 : (s.toList == [116, 114, 117, 101]) = false := ne_lit h2
  have e3 : (s.toList == [102, 97, 108, 115, 101]) = false := ne_lit h3
  have c := fun W => Tryd.strings_CutPrefix s ⟨#[39]⟩ W
  have t1 : trimPrefix s.data.toList (ByteArray.mk #[39]).data.toList = s.data.toList.tail := (trim_quote h).1
  have t2 : hasPrefix s.data.toList (ByteArray.mk #[39]).data.toList = true := (trim_quote h).2
  rw [t1, t2] at c
  obtain ⟨D, hD⟩ : ∃ D, tlB s = D := ⟨_, rfl⟩
  rw [show (⟨s.data.toList.tail.toArray⟩ : ByteArray) = D from hD] at c
  rw [hD] at d
  clear h1 h2 h3 h t1 t2 hD
  go_enter Tryd.func20, Tryd.ntmps20
  go_wp2_with (first
    | (go_at_call 34; refine (c _).mono ?_; rintro e w' ⟨rfl, rfl⟩)
    | (go_at_call 11; refine (d _ (Below.refl _ _)).mono ?_; rintro e w2 ⟨rfl, hb⟩))
  go_ret2
  exact ⟨rfl, hb⟩

theorem parse_plain {V E : Value} (s : ByteArray) (w : World) (h1 : s ≠ sNull) (h2 : s ≠ sTrue) (h3 : s ≠ sFalse) (h : s.data.toList.head? ≠ some 39)
    (d : Calls Tryd.prog 35 #[.string s] w fun e w' => e = .returned (.tuple #[V, E]) ∧ Below w.heap.size w w') :
    Calls Tryd.prog 20 #[.string s] w fun e w' => e = .returned (.tuple #[V, E]) ∧ Below w.heap.size w w' := by
  have e1 : (s.toList == [110, 117, 108, 108]) = false := ne_lit h1
  have e2 : (s.toList == [116, 114, 117, 101]) = false := ne_lit h2
  have e3 : (s.toList == [102, 97, 108, 115, 101]) = false := ne_lit h3
  have c := fun W => Tryd.strings_CutPrefix s ⟨#[39]⟩ W
  have t1 : trimPrefix s.data.toList (ByteArray.mk #[39]).data.toList = s.data.toList := (trim_noquote h).1
  have t2 : hasPrefix s.data.toList (ByteArray.mk #[39]).data.toList = false := (trim_noquote h).2
  rw [t1, t2] at c
  generalize (⟨s.data.toList.toArray⟩ : ByteArray) = D at c
  clear h1 h2 h3 h t1 t2
  go_enter Tryd.func20, Tryd.ntmps20
  go_wp2_with (first
    | (go_at_call 34; refine (c _).mono ?_; rintro e w' ⟨rfl, rfl⟩)
    | (go_at_call 35; refine d.mono ?_; rintro e w2 ⟨rfl, hb⟩))
  go_ret2
  exact ⟨rfl, hb⟩

theorem parse_any {I : List Nat} {a : Nat → Addr} (s : ByteArray) (w : World) (hI : ∀ i ∈ [0, 3, 4, 9], i ∈ I) (hS : Std I a w) (hT : Strc w) (hs : s.size ≤ 281474976710656) :
    Calls Tryd.prog 20 #[.string s] w fun e w' => e = .returned (.tuple #[resV (prs s), errOf a (prs s).1]) ∧ Below w.heap.size w w' := by
  by_cases h1 : s = sNull
  · subst h1; exact parse_null w
  by_cases h2 : s = sTrue
  · subst h2
    have e : prs sTrue = (0, 1, 1, ⟨#[]⟩) := by rw [prs, if_neg h1, if_pos rfl]
    rw [e]; exact parse_true w
  by_cases h3 : s = sFalse
  · subst h3
    have e : prs sFalse = (0, 1, 0, ⟨#[]⟩) := by rw [prs, if_neg h1, if_neg h2, if_pos rfl]
    rw [e]; exact parse_false w
  have hI' : ∀ i ∈ [0, 4, 9], i ∈ I := fun i hi => hI i (by simp at hi ⊢; omega)
  by_cases h4 : s.data.toList.head? = some 39
  · have hz := tlB_size s
    by_cases h5 : txtE (tlB s) = 0
    · have e : prs s = (0, 3, 0, tlB s) := by rw [prs, if_neg h1, if_neg h2, if_neg h3, if_pos h4, if_pos h5]
      rw [e]
      exact parse_quote s w h1 h2 h3 h4 fun W hW => from_below hW (of_ok 3 0 (tlB s) W hI' (hS.below hW) (by omega) (by rw [chk_text]; exact h5))
    · obtain ⟨x, hx⟩ : ∃ x, txtE (tlB s) = x + 1 := ⟨txtE (tlB s) - 1, by omega⟩
      have e : prs s = (x + 1, 0, 0, ⟨#[]⟩) := by rw [prs, if_neg h1, if_neg h2, if_neg h3, if_pos h4, if_neg h5, hx]
      rw [e]
      exact parse_quote s w h1 h2 h3 h4 fun W hW => from_below hW (of_no 3 0 (tlB s) W hI' (hS.below hW) (by omega) x (by rw [chk_text]; exact hx))
  · cases h5 : isDec s.data.toList
    · have e : prs s = (5, 0, 0, ⟨#[]⟩) := by rw [prs, if_neg h1, if_neg h2, if_neg h3, if_neg h4, h5]; rfl
      rw [e]
      exact parse_plain s w h1 h2 h3 h4 (number_no s w (hI 4 (by simp)) hS (by omega) h5)
    · cases h6 : rngB (valZ s.data.toList)
      · have e : prs s = (4, 0, 0, ⟨#[]⟩) := by rw [prs, if_neg h1, if_neg h2, if_neg h3, if_neg h4, h5, h6]; rfl
        rw [e]
        exact parse_plain s w h1 h2 h3 h4 (number_out s w (hI 3 (by simp)) hS hT hs h5 h6)
      · have e : prs s = (0, 2, valZ s.data.toList, ⟨#[]⟩) := by rw [prs, if_neg h1, if_neg h2, if_neg h3, if_neg h4, h5, h6]; rfl
        rw [e]
        exact parse_plain s w h1 h2 h3 h4 (number_ok s w hs h5 h6)
end Go.Proofs.YtlmibpfikafbdaaDoor
