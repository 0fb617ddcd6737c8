/- What scalars.Len and scalars.Cut answer (parts of Sca.tpl and Cut.tpl, over a list of sentinels). -/
import Derived.Test.YtplnojapnaaakaaGreatDoorPVf
import Derived.Test.YtplnojapnaaakaaGreatDoorPPos
import Derived.Laws.RangeString
import Derived.Laws.RangeAny
import Derived.Deep.RegionWith
namespace Go.Proofs.YtplnojapnaaakaaGreatDoor
open Go Go.RowKit Go.Lib
set_option linter.unusedVariables false
/-- How many scalars UTF-8 has. -/
theorem runeCountFrom_encs (s : ByteArray) : ∀ (rs : List Nat) (f pos : Nat), (∀ r ∈ rs, scal r) → s.data.toList.drop pos = encs rs → s.size - pos ≤ f → runeCountFrom s f pos = rs.length
  | [], f, pos, _, h, hf => by
    have := congrArg List.length h
    rw [List.length_drop, size_toList] at this
    exact runeCountFrom_end s f pos (by simp [encs] at this; omega)
  | r :: rs, 0, pos, hr, h, hf => by
    exfalso
    have := congrArg List.length h
    have hp := enc_pos (hr r (by simp))
    rw [List.length_drop, size_toList, encs, List.length_append] at this
    omega
  | r :: rs, f + 1, pos, hr, h, hf => by
    have hl := congrArg List.length h
    have hrr := hr r (by simp)
    have hp := enc_pos hrr
    rw [List.length_drop, size_toList, encs, List.length_append] at hl
    have hd : Utf8.decode s pos = (r, (enc r).length) := by
      rw [← decodeL_drop, h, encs, dec_enc hrr]
    rw [runeCountFrom, if_pos (by omega), hd]
    have ih := runeCountFrom_encs s rs f (pos + (enc r).length) (fun x hx => hr x (by simp [hx])) (by rw [← List.drop_drop, h, encs, List.drop_left]) (by omega)
    simp only []
    rw [ih, List.length_cons]; omega
theorem runeCount_scs (s : ByteArray) (h : brk s.data.toList = s.size) : runeCount s = (scs s.data.toList).length := by
  have hv := valid_of_brk (l := s.data.toList) (by rw [h, size_toList])
  obtain ⟨_, h1, _, _⟩ := text_cases s.data.toList
  exact runeCountFrom_encs s _ _ 0 h1 (by rw [List.drop_zero]; exact hv) (Nat.le_refl _)

theorem len_ok0 {I : List Nat} {a : Nat → Addr} (s : ByteArray) (w : World) (hI : 0 ∈ I) (hS : Std I a w) (hs : s.size ≤ 281474976710656) (h : brk s.data.toList = s.size) :
    Calls Tryz.prog 149 #[.string s] w fun e w' => e = .returned (.tuple #[.int .i64 (scs s.data.toList).length, .nilIface]) ∧ Below w.heap.size w w' := by
  have c := check_ok s w hI hS hs h
  have d : ∀ W, Calls Tryz.prog 163 #[.string s] W fun e w' => e = .returned (.int .i64 (scs s.data.toList).length) ∧ ∃ pos, w' = W.iter s pos := fun W => by
    have := Tryz.utf8_RuneCountInString s W (by omega)
    rwa [runeCount_scs s h] at this
  clear hS hI h
  go_enter Tryz.func149, Tryz.ntmps149
  go_wp2_with (first | (go_at_call 162; refine c.mono ?_; rintro e w' ⟨rfl, hb⟩) | (go_at_call 163; refine (d _).mono ?_; rintro e w2 ⟨rfl, pos, rfl⟩))
  go_ret2
  exact ⟨rfl, hb.alloc hb.size _⟩

theorem len_no0 {I : List Nat} {a : Nat → Addr} (s : ByteArray) (w : World) (hI : 0 ∈ I) (hS : Std I a w) (hs : s.size ≤ 281474976710656) (h : brk s.data.toList ≠ s.size) :
    Calls Tryz.prog 149 #[.string s] w fun e w' => e = .returned (.tuple #[.int .i64 0, errV a 0]) ∧ Below w.heap.size w w' := by
  have c := check_no s w hI hS hs h
  clear hS hI h
  go_enter Tryz.func149, Tryz.ntmps149
  go_wp2_with (go_at_call 162; refine c.mono ?_; rintro e w' ⟨rfl, hb⟩)
  go_ret2
  exact ⟨rfl, hb⟩

theorem decode_pos (s : ByteArray) (rs : List Nat) (hv : s.data.toList = encs rs) (hs : ∀ r ∈ rs, scal r) (i : Nat) (h : i < rs.length) :
    Utf8.decode s (pos rs i) = (rs[i], (enc rs[i]).length) ∧ pos rs i < s.size := by
  have hr : scal rs[i] := hs _ (List.getElem_mem h)
  have hp := enc_pos hr
  constructor
  · rw [← decodeL_drop, hv, drop_pos, List.drop_eq_getElem_cons h, encs, dec_enc hr]
  · have h1 := pos_succ rs i h
    have h2 := pos_le rs (i + 1)
    rw [← hv, size_toList] at h2
    omega

/-- What is known of a text that is UTF-8. -/
theorem valid_text (s : ByteArray) (h : brk s.data.toList = s.size) : (∀ r ∈ scs s.data.toList, scal r) ∧ s.data.toList = encs (scs s.data.toList) ∧ (scs s.data.toList).length ≤ s.size := by
  have hv := valid_of_brk (l := s.data.toList) (by rw [h, size_toList])
  obtain ⟨_, h1, _, _⟩ := text_cases s.data.toList
  refine ⟨h1, hv, ?_⟩
  have : ∀ rs : List Nat, (∀ r ∈ rs, scal r) → rs.length ≤ (encs rs).length := fun rs => by
    induction rs with
    | nil => intro _; exact Nat.le_refl _
    | cons x rs ih =>
      intro hx
      have := enc_pos (hx x (by simp))
      have := ih fun r hr => hx r (by simp [hr])
      simp only [encs, List.length_append, List.length_cons]
      omega
  have := this _ h1
  rw [← hv, size_toList] at this
  exact this

end Go.Proofs.YtplnojapnaaakaaGreatDoor
