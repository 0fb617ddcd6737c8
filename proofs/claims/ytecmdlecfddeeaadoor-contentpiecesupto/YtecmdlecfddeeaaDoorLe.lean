/- What scalars.Len and scalars.Cut answer (parts of Sca.tpl and Cut.tpl, over a list of sentinels). -/
import Derived.Test.YtecmdlecfddeeaaDoorVf
import Derived.Test.YtecmdlecfddeeaaDoorPos
import Derived.Laws.RangeString
import Derived.Laws.RangeAny
import Derived.Deep.RegionWith
namespace Go.Proofs.YtecmdlecfddeeaaDoor
open Go Go.RowKit Go.Lib
set_option linter.unusedVariables false

/-- How many scalars UTF-8 has. -/
theorem runeCountFrom_encs (s : ByteArray) : ∀ (rs : List Nat) (f pos : Nat), (∀ r ∈ rs, scal r) → s.data.toList.drop pos = encs rs → s.size - pos ≤ f → runeCountFrom s f pos = rs.length
  | [], f, pos, _, h, hf => by
    have := congrArg List.length h
    rw [List.length_drop, size_toList] at this
    exact runeCountFrom_end s f pos (by simp [encs] at this; omega)
  | r :: rs, 0, pos, hr, h, hf => by
    exfalso
    have := congrArg List.length h
    have hp := enc_pos (hr r (by simp))
    rw [List.length_drop, size_toList, encs, List.length_append] at this
    omega
  | r :: rs, f + 1, pos, hr, h, hf => by
    have hl := congrArg List.length h
    have hrr := hr r (by simp)
    have hp := enc_pos hrr
    rw [List.length_drop, size_toList, encs, List.length_append] at hl
    have hd : Utf8.decode s pos = (r, (enc r).length) := by
      rw [← decodeL_drop, h, encs, dec_enc hrr]
    rw [runeCountFrom, if_pos (by omega), hd]
    have ih := runeCountFrom_encs s rs f (pos + (enc r).length) (fun x hx => hr x (by simp [hx])) (by rw [← List.drop_drop, h, encs, List.drop_left]) (by omega)
    simp only []
    rw [ih, List.length_cons]; omega
theorem runeCount_scs (s : ByteArray) (h : brk s.data.toList = s.size) : runeCount s = (scs s.data.toList).length := by
  have hv := valid_of_brk (l := s.data.toList) (by rw [h, size_toList])
  obtain ⟨_, h1, _, _⟩ := text_cases s.data.toList
  exact runeCountFrom_encs s _ _ 0 h1 (by rw [List.drop_zero]; exact hv) (Nat.le_refl _)

theorem len_ok {I : List Nat} {a : Nat → Addr} (s : ByteArray) (w : World) (hI : ∀ i ∈ [0, 11], i ∈ I) (hS : Std I a w) (hs : s.size ≤ 281474976710656) (h : brk s.data.toList = s.size) :
    Calls Tryd.prog 39 #[.string s] w fun e w' => e = .returned (.tuple #[.int .i64 (scs s.data.toList).length, .nilIface]) ∧ Below w.heap.size w w' := by
  have c := check_ok s w (hI 0 (by decide)) hS hs h
  have d : ∀ W, Calls Tryd.prog 55 #[.string s] W fun e w' => e = .returned (.int .i64 (scs s.data.toList).length) ∧ ∃ pos, w' = W.iter s pos := fun W => by
    have := Tryd.utf8_RuneCountInString s W (by omega)
    rwa [runeCount_scs s h] at this
  clear hS hI h
  go_enter Tryd.func39, Tryd.ntmps39
  go_wp2_with (first | (go_at_call 58; refine c.mono ?_; rintro e w' ⟨rfl, hb⟩) | (go_at_call 55; refine (d _).mono ?_; rintro e w2 ⟨rfl, pos, rfl⟩))
  go_ret2
  exact ⟨rfl, hb.alloc hb.size _⟩

theorem len_no {I : List Nat} {a : Nat → Addr} (s : ByteArray) (w : World) (hI : ∀ i ∈ [0, 11], i ∈ I) (hS : Std I a w) (hs : s.size ≤ 281474976710656) (h : brk s.data.toList ≠ s.size) :
    Calls Tryd.prog 39 #[.string s] w fun e w' => e = .returned (.tuple #[.int .i64 0, errV a 0]) ∧ Below w.heap.size w w' := by
  have c := check_no s w (hI 0 (by decide)) hS hs h
  clear hS hI h
  go_enter Tryd.func39, Tryd.ntmps39
  go_wp2_with (go_at_call 58; refine c.mono ?_; rintro e w' ⟨rfl, hb⟩)
  go_ret2
  exact ⟨rfl, hb⟩

theorem decode_pos (s : ByteArray) (rs : List Nat) (hv : s.data.toList = encs rs) (hs : ∀ r ∈ rs, scal r) (i : Nat) (h : i < rs.length) :
    Utf8.decode s (pos rs i) = (rs[i], (enc rs[i]).length) ∧ pos rs i < s.size := by
  have hr : scal rs[i] := hs _ (List.getElem_mem h)
  have hp := enc_pos hr
  constructor
  · rw [← decodeL_drop, hv, drop_pos, List.drop_eq_getElem_cons h, encs, dec_enc hr]
  · have h1 := pos_succ rs i h
    have h2 := pos_le rs (i + 1)
    rw [← hv, size_toList] at h2
    omega

set_option maxHeartbeats 400000 in
theorem place_any (s : ByteArray) (rs : List Nat) (n : Nat) (w : World) (hv : s.data.toList = encs rs) (hs : ∀ r ∈ rs, scal r) (hn : n ≤ rs.length) (hb : s.size ≤ 281474976710656) (hl : rs.length ≤ s.size) :
    Calls Tryd.prog 64 #[.string s, .int .i64 n] w fun e w' => e = .returned (.int .i64 (pos rs n)) ∧ Below w.heap.size w w' := by
  go_enter Tryd.func64, Tryd.ntmps64
  go_wp2
  go_loopw [1] (fun m w' => ∃ i : Nat, i ≤ n ∧ m = .int .i64 ((n : Int) - i) ∧ w' = w.iter s (pos rs i)) (fun _ w' => s.size - w'.iterPos w.heap.size)
  case atStart => exact ⟨0, Nat.zero_le _, by simp, rfl⟩
  case round =>
    obtain ⟨i, hi, rfl, rfl⟩ := hrel
    by_cases hlt : i < rs.length
    · obtain ⟨hd, hp⟩ := decode_pos s rs hv hs i hlt
      have hps := pos_succ rs i hlt
      have hpl := enc_pos (hs _ (List.getElem_mem hlt))
      obtain ⟨W, hW⟩ : ∃ W, (enc rs[i]).length = W := ⟨_, rfl⟩
      obtain ⟨R, hR⟩ : ∃ R, rs[i] = R := ⟨_, rfl⟩
      obtain ⟨p, hpp⟩ : ∃ p, pos rs i = p := ⟨_, rfl⟩
      obtain ⟨q, hq⟩ : ∃ q, pos rs (i + 1) = q := ⟨_, rfl⟩
      rw [hW, hR, hpp] at hd
      rw [hW] at hpl
      rw [hpp, hW, hq] at hps
      rw [hpp] at hp ⊢
      have hnx : ∀ ty, (Instr.next (.pointer (some ⟨w.heap.size, 0, none⟩)) true ty).run Tryd.prog (w.iter s p) = .ok (.tuple #[.bool true, .int .i64 p, .int .i32 R]) (w.iter s q) := fun ty => by
        have := run_next_any (P := Tryd.prog) w s p ty hp
        rw [hd] at this
        rw [this, hps]
      have HP : Hid (pos rs i = p) := hpp
      have HQ : Hid (pos rs (i + 1) = q) := hq
      have hpq : p < q := by omega
      clear hd hps hpp hq hR hW hv hs
      by_cases hz : i = n
      · have hz' : ((n : Int) - i) = 0 := by omega
        go_wp2
        go_ret
        rw [← HP.out, hz]
        exact ⟨rfl, (Below.refl _ _).alloc (Nat.le_refl _) _⟩
      · have hz' : ¬ ((n : Int) - i) = 0 := by omega
        go_wp2
        go_roundw
        case rel => exact ⟨i + 1, by omega, by go_num, by rw [HQ.out]⟩
        case measure => simp; omega
    · have he : i = n := by omega
      have hpe : pos rs i = s.size := by
        have h1 : i = rs.length := by omega
        rw [h1, pos_all, ← hv, size_toList]
      have hnx : ∀ ty, (Instr.next (.pointer (some ⟨w.heap.size, 0, none⟩)) true ty).run Tryd.prog (w.iter s (pos rs i)) = _ := fun ty => run_next_end w s _ ty (by omega)
      have hP : Hid (pos rs n = s.size) := by show _ = _; rw [← he]; exact hpe
      clear hpe hv hs he
      go_wp2
      go_ret
      rw [hP.out]
      exact ⟨rfl, (Below.refl _ _).alloc (Nat.le_refl _) _⟩

/-- One call behind another, draws between. -/
theorem below_on {W w w1 w' : World} (h : Below W.heap.size W w) (k : Below w1.heap.size w1 w') (e : w1.heap = w.heap) (e1 : w1.os = w.os) (e2 : w1.tape = w.tape) (e3 : w1.output = w.output) : Below W.heap.size W w' :=
  h.trans ⟨k.os.trans e1, k.tape.trans e2, k.output.trans e3, e ▸ k.size, fun i hi => by
    rw [← e]; exact k.block i (by rw [e]; exact Nat.lt_of_lt_of_le hi h.size)⟩

/-- What is known of a text that is UTF-8. -/
theorem valid_text (s : ByteArray) (h : brk s.data.toList = s.size) : (∀ r ∈ scs s.data.toList, scal r) ∧ s.data.toList = encs (scs s.data.toList) ∧ (scs s.data.toList).length ≤ s.size := by
  have hv := valid_of_brk (l := s.data.toList) (by rw [h, size_toList])
  obtain ⟨_, h1, _, _⟩ := text_cases s.data.toList
  refine ⟨h1, hv, ?_⟩
  have : ∀ rs : List Nat, (∀ r ∈ rs, scal r) → rs.length ≤ (encs rs).length := fun rs => by
    induction rs with
    | nil => intro _; exact Nat.le_refl _
    | cons x rs ih =>
      intro hx
      have := enc_pos (hx x (by simp))
      have := ih fun r hr => hx r (by simp [hr])
      simp only [encs, List.length_append, List.length_cons]
      omega
  have := this _ h1
  rw [← hv, size_toList] at this
  exact this

theorem cut_no {I : List Nat} {a : Nat → Addr} (s : ByteArray) (n : Int) (w : World) (hI : ∀ i ∈ [0, 11], i ∈ I) (hS : Std I a w) (hs : s.size ≤ 281474976710656) (h : brk s.data.toList ≠ s.size) :
    Calls Tryd.prog 48 #[.string s, .int .i64 n] w fun e w' => e = .returned (.tuple #[.string ⟨#[]⟩, .string ⟨#[]⟩, errV a 0]) ∧ Below w.heap.size w w' := by
  have c := len_no s w hI hS hs h
  clear hS hI h
  go_enter Tryd.func48, Tryd.ntmps48
  go_wp2_with (go_at_call 39; refine c.mono ?_; rintro e w' ⟨rfl, hb⟩)
  go_ret3
  exact ⟨rfl, hb⟩

theorem cut_range {I : List Nat} {a : Nat → Addr} (s : ByteArray) (n : Int) (w : World) (hI : ∀ i ∈ [0, 11], i ∈ I) (hS : Std I a w) (hs : s.size ≤ 281474976710656) (h : brk s.data.toList = s.size) (hn : n < 0 ∨ n > (scs s.data.toList).length) :
    Calls Tryd.prog 48 #[.string s, .int .i64 n] w fun e w' => e = .returned (.tuple #[.string ⟨#[]⟩, .string ⟨#[]⟩, errV a 11]) ∧ Below w.heap.size w w' := by
  have c := len_ok s w hI hS hs h
  have hg : ∀ w', Below w.heap.size w w' → w'.cell? ⟨0, 0, none⟩ = some (errV a 11) := fun w' hb' => (hS.below hb').er.cell 11 (hI 11 (by decide))
  obtain ⟨m, hm⟩ : ∃ m, (scs s.data.toList).length = m := ⟨_, rfl⟩
  rw [hm] at c hn
  clear hS hI h hm
  by_cases hn0 : n < 0
  · clear hn
    go_enter Tryd.func48, Tryd.ntmps48
    go_wp2_with (go_at_call 39; refine c.mono ?_; rintro e w' ⟨rfl, hb⟩; have hc' := hg w' hb)
    go_quiet (fail)
    go_wp2
    go_ret3
    exact ⟨rfl, below_drewN hb _⟩
  · have hn1 : n > (m : Int) := by omega
    clear hn
    go_enter Tryd.func48, Tryd.ntmps48
    go_wp2_with (go_at_call 39; refine c.mono ?_; rintro e w' ⟨rfl, hb⟩; have hc' := hg w' hb)
    go_quiet (fail)
    go_wp2
    go_ret3
    exact ⟨rfl, below_drewN hb _⟩

set_option maxHeartbeats 1000000 in
theorem cut_ok {I : List Nat} {a : Nat → Addr} (s : ByteArray) (n : Nat) (w : World) (hI : ∀ i ∈ [0, 11], i ∈ I) (hS : Std I a w) (hs : s.size ≤ 281474976710656) (h : brk s.data.toList = s.size) (hn : n ≤ (scs s.data.toList).length) :
    Calls Tryd.prog 48 #[.string s, .int .i64 n] w fun e w' => e = .returned (.tuple #[.string (s.extract 0 (pos (scs s.data.toList) n)), .string (s.extract (pos (scs s.data.toList) n) s.size), .nilIface]) ∧ Below w.heap.size w w' := by
  have c := len_ok s w hI hS hs h
  obtain ⟨h1, h2, h3⟩ := valid_text s h
  have d := fun W => place_any s _ n W h2 h1 hn hs h3
  have hp : pos (scs s.data.toList) n ≤ s.size := by have := pos_le (scs s.data.toList) n; rw [← h2, size_toList] at this; exact this
  obtain ⟨p, hpp⟩ : ∃ p, pos (scs s.data.toList) n = p := ⟨_, rfl⟩
  obtain ⟨m, hm⟩ : ∃ m, (scs s.data.toList).length = m := ⟨_, rfl⟩
  rw [hpp] at d hp ⊢
  rw [hm] at c hn h3
  have e1 : ∀ W, Calls Tryd.prog 42 #[.string (s.extract 0 p)] W fun e w' => e = .returned (.string (s.extract 0 p)) ∧ Below W.heap.size W w' := fun W => clone_any _ W (by rw [ByteArray.size_extract]; omega)
  have e2 : ∀ W, Calls Tryd.prog 42 #[.string (s.extract p s.size)] W fun e w' => e = .returned (.string (s.extract p s.size)) ∧ Below W.heap.size W w' := fun W => clone_any _ W (by rw [ByteArray.size_extract]; omega)
  clear hS hI h h1 h2 hpp hm
  go_enter Tryd.func48, Tryd.ntmps48
  go_wp2_with (first | (go_at_call 39; refine c.mono ?_; rintro e w' ⟨rfl, hb⟩) | (go_at_call 64; refine (d _).mono ?_; rintro e w2 ⟨rfl, hb2⟩))
  have hb3 := hb.trans (hb2.mono hb.size)
  clear hb hb2 c d
  go_region_with (go_at_call 42; refine (clone_any _ _ ?_).mono ?_; (· rw [ByteArray.size_extract]; omega); rintro e w3 ⟨rfl, hb4⟩; replace hb3 := below_on hb3 hb4 rfl rfl rfl rfl; clear hb4)
  all_goals go_wp2
  all_goals go_ret3
  all_goals exact ⟨by kernel_rfl, hb3⟩

end Go.Proofs.YtecmdlecfddeeaaDoor
