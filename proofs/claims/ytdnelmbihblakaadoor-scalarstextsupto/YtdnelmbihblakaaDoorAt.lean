/- What scalars.At answers. -/
import Derived.Test.YtdnelmbihblakaaDoorCut
namespace Go.Proofs.YtdnelmbihblakaaDoor
open Go Go.RowKit Go.Lib
set_option linter.unusedVariables false

theorem at_no {a : Nat → Addr} (s : ByteArray) (n : Int) (w : World) (hS : Std a w) (hs : s.size ≤ 281474976710656) (h : brk s.data.toList ≠ s.size) :
    Calls Tryd.prog 19 #[.string s, .int .i64 n] w fun e w' => e = .returned (.tuple #[.int .i32 0, errV a 0]) ∧ Below w.heap.size w w' := by
  have c := len_no s w hS hs h
  clear hS h
  go_enter Tryd.func19, Tryd.ntmps19
  go_wp2_with (go_at_call 15; refine c.mono ?_; rintro e w' ⟨rfl, hb⟩)
  go_ret2
  exact ⟨rfl, hb⟩

theorem at_range {a : Nat → Addr} (s : ByteArray) (n : Int) (w : World) (hS : Std a w) (hs : s.size ≤ 281474976710656) (h : brk s.data.toList = s.size) (hn : n < 0 ∨ n ≥ (scs s.data.toList).length) :
    Calls Tryd.prog 19 #[.string s, .int .i64 n] w fun e w' => e = .returned (.tuple #[.int .i32 0, errV a 11]) ∧ Below w.heap.size w w' := by
  have c := len_ok s w hS hs h
  have hg : ∀ w', Below w.heap.size w w' → w'.cell? ⟨1, 0, none⟩ = some (errV a 11) := fun w' hb' => (hS.below hb').sent.cell 11 (by omega)
  obtain ⟨m, hm⟩ : ∃ m, (scs s.data.toList).length = m := ⟨_, rfl⟩
  rw [hm] at c hn
  clear hS h hm
  by_cases hn0 : n < 0
  · clear hn
    go_enter Tryd.func19, Tryd.ntmps19
    go_wp2_with (go_at_call 15; refine c.mono ?_; rintro e w' ⟨rfl, hb⟩; have hc' := hg w' hb)
    go_quiet (fail)
    go_wp2
    go_ret2
    exact ⟨rfl, below_drewN hb _⟩
  · have hn1 : n ≥ (m : Int) := by omega
    clear hn
    go_enter Tryd.func19, Tryd.ntmps19
    go_wp2_with (go_at_call 15; refine c.mono ?_; rintro e w' ⟨rfl, hb⟩; have hc' := hg w' hb)
    go_quiet (fail)
    go_wp2
    go_ret2
    exact ⟨rfl, below_drewN hb _⟩

theorem at_ok {a : Nat → Addr} (s : ByteArray) (n : Nat) (w : World) (hS : Std a w) (hs : s.size ≤ 281474976710656) (h : brk s.data.toList = s.size) (hn : n < (scs s.data.toList).length) :
    Calls Tryd.prog 19 #[.string s, .int .i64 n] w fun e w' => e = .returned (.tuple #[.int .i32 ((scs s.data.toList)[n]'hn : Nat), .nilIface]) ∧ Below w.heap.size w w' := by
  have c := len_ok s w hS hs h
  obtain ⟨h1, h2, h3⟩ := valid_text s h
  have d := fun W => place_any s _ n W h2 h1 (by omega) hs h3
  have hr : scal (scs s.data.toList)[n] := h1 _ (List.getElem_mem hn)
  obtain ⟨hdec, hlt⟩ := decode_pos s _ h2 h1 n hn
  have hgo := decodeGo_drop s _ hlt
  rw [decodeL_drop, hdec] at hgo
  obtain ⟨R, hR⟩ : ∃ R, (scs s.data.toList)[n] = R := ⟨_, rfl⟩
  obtain ⟨p, hpp⟩ : ∃ p, pos (scs s.data.toList) n = p := ⟨_, rfl⟩
  obtain ⟨m, hm⟩ : ∃ m, (scs s.data.toList).length = m := ⟨_, rfl⟩
  obtain ⟨W, hW⟩ : ∃ W, (enc R).length = W := ⟨_, rfl⟩
  rw [hR] at hr
  rw [hR, hpp, hW] at hgo
  have hv : ¬ (R = 65533 ∧ W < 2) := by
    rintro ⟨h4, h5⟩
    rw [← hW, enc_len hr, h4] at h5
    simp at h5
  have f := fun w' (hb : Below w.heap.size w w') => first_ok (s.extract p s.size) w' (hS.below hb).tabs R W (by rw [hgo]) (by rw [hgo]) hv
  rw [hpp] at d hlt
  rw [hm] at c h3
  have hn' : n < m := by omega
  rw [hR]
  clear hS h h1 h2 hpp hr hdec hgo hR hW hv hn hm
  go_enter Tryd.func19, Tryd.ntmps19
  go_wp2_with (first | (go_at_call 15; refine c.mono ?_; rintro e w1 ⟨rfl, hb⟩) | (go_at_call 33; refine (d _).mono ?_; rintro e w2 ⟨rfl, hb2⟩) | (go_at_call 27; refine (f _ (hb.trans (hb2.mono hb.size))).mono ?_; rintro e w3 ⟨rfl, hb3⟩))
  go_ret2
  have hb12 := hb.trans (hb2.mono hb.size)
  exact ⟨rfl, hb12.trans (hb3.mono hb12.size)⟩
end Go.Proofs.YtdnelmbihblakaaDoor
