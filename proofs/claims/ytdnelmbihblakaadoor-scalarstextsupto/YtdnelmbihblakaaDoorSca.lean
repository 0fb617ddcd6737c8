/- What the functions of package scalars answer: first, Check, Len, Width, Pair. -/
import Derived.Test.YtdnelmbihblakaaDoorNum
import Derived.Test.YtdnelmbihblakaaDoorShelf
import Derived.Test.YtdnelmbihblakaaDoorUtf
namespace Go.Proofs.YtdnelmbihblakaaDoor
open Go Go.RowKit Go.Lib
set_option linter.unusedVariables false

/-- What a call finds in memory: the sentinels, and utf8's two tables. -/
structure Std (a : Nat → Addr) (w : World) : Prop where
  sent : Sent a w
  tabs : Utf8Tabs 19 20 w
theorem Std.below {a : Nat → Addr} {w w' : World} (h : Std a w) (hb : Below w.heap.size w w') : Std a w' := ⟨h.sent.below hb, Utf8Tabs_below h.tabs hb⟩

theorem first_ok (s : ByteArray) (w : World) (hT : Utf8Tabs 19 20 w) (R W : Nat) (hR : (decodeGo s).1 = R) (hW : (decodeGo s).2 = W) (hv : ¬ (R = 65533 ∧ W < 2)) :
    Calls Tryd.prog 27 #[.string s] w fun e w' => e = .returned (.tuple #[.int .i32 R, .int .i64 W]) ∧ Below w.heap.size w w' := by
  have c := Tryd.utf8_DecodeRuneInString s w hT
  rw [hR, hW] at c
  clear hR hW
  by_cases h1 : R = 65533
  · have h2 : ¬ ((W : Int) < 2) := by omega
    subst h1
    clear hv
    go_enter Tryd.func27, Tryd.ntmps27
    go_wp2_with (go_at_call 40; refine c.mono ?_; rintro e w' ⟨rfl, hb⟩)
    go_ret2
    exact ⟨rfl, hb⟩
  · have h2 : ¬ ((R : Int) = 65533) := by omega
    clear hv h1
    go_enter Tryd.func27, Tryd.ntmps27
    go_wp2_with (go_at_call 40; refine c.mono ?_; rintro e w' ⟨rfl, hb⟩)
    go_ret2
    exact ⟨rfl, hb⟩

theorem first_bad (s : ByteArray) (w : World) (hT : Utf8Tabs 19 20 w) (W : Nat) (hR : (decodeGo s).1 = 65533) (hW : (decodeGo s).2 = W) (hv : W < 2) :
    Calls Tryd.prog 27 #[.string s] w fun e w' => e = .returned (.tuple #[.int .i32 0, .int .i64 0]) ∧ Below w.heap.size w w' := by
  have c := Tryd.utf8_DecodeRuneInString s w hT
  rw [hR, hW] at c
  clear hR hW
  have h2 : (W : Int) < 2 := by omega
  go_enter Tryd.func27, Tryd.ntmps27
  go_wp2_with (go_at_call 40; refine c.mono ?_; rintro e w' ⟨rfl, hb⟩)
  go_ret2
  exact ⟨rfl, hb⟩

def widthZ (r : Int) : Int := max 0 (runeLen r)
theorem width_any (r : Int) (w : World) : Calls Tryd.prog 23 #[.int .i32 r] w fun e w' => e = .returned (.int .i64 (widthZ r)) ∧ w' = w := by
  have c := Tryd.utf8_RuneLen r w
  unfold widthZ
  obtain ⟨n, hn⟩ : ∃ n, runeLen r = n := ⟨_, rfl⟩
  rw [hn] at c ⊢
  clear hn
  go_enter Tryd.func23, Tryd.ntmps23
  go_wp2_with (go_at_call 39; refine c.mono ?_; rintro e w' ⟨rfl, rfl⟩)
  go_ret
  exact ⟨rfl, rfl⟩

/-- The scalar of two surrogates. -/
theorem pair_ok (h l : Int) (w : World) (h1 : 55296 ≤ h) (h2 : h ≤ 56319) (h3 : 56320 ≤ l) (h4 : l ≤ 57343) :
    Calls Tryd.prog 25 #[.int .i32 h, .int .i32 l] w fun e w' => e = .returned (.tuple #[.int .i32 (65536 + (h - 55296) * 1024 + (l - 56320)), .nilIface]) ∧ w' = w := by
  have c1 : ¬ h < 55296 := by omega
  have c2 : ¬ h > 56319 := by omega
  have c3 : ¬ l < 56320 := by omega
  have c4 : ¬ l > 57343 := by omega
  go_enter Tryd.func25, Tryd.ntmps25
  go_wp2
  go_ret2
  exact ⟨rfl, rfl⟩

theorem pair_no {a : Nat → Addr} (h l : Int) (w : World) (hS : Sent a w) (hn : h < 55296 ∨ h > 56319 ∨ l < 56320 ∨ l > 57343) :
    Calls Tryd.prog 25 #[.int .i32 h, .int .i32 l] w fun e w' => e = .returned (.tuple #[.int .i32 0, errV a 0]) ∧ Below w.heap.size w w' := by
  have hc : w.cell? ⟨0, 0, none⟩ = some (errV a 0) := hS.cell 0 (by omega)
  clear hS
  by_cases c1 : h < 55296
  · clear hn
    go_enter Tryd.func25, Tryd.ntmps25
    go_wp2
    go_quiet (fail)
    go_wp2
    go_ret2
    exact ⟨rfl, below_drewN (Below.refl _ _) _⟩
  by_cases c2 : h > 56319
  · clear hn
    go_enter Tryd.func25, Tryd.ntmps25
    go_wp2
    go_quiet (fail)
    go_wp2
    go_ret2
    exact ⟨rfl, below_drewN (Below.refl _ _) _⟩
  by_cases c3 : l < 56320
  · clear hn
    go_enter Tryd.func25, Tryd.ntmps25
    go_wp2
    go_quiet (fail)
    go_wp2
    go_ret2
    exact ⟨rfl, below_drewN (Below.refl _ _) _⟩
  · have c4 : l > 57343 := by omega
    clear hn
    go_enter Tryd.func25, Tryd.ntmps25
    go_wp2
    go_quiet (fail)
    go_wp2
    go_ret2
    exact ⟨rfl, below_drewN (Below.refl _ _) _⟩

theorem decodeGo_drop (s : ByteArray) (k : Nat) (hk : k < s.size) : decodeGo (s.extract k s.size) = decodeL (s.data.toList.drop k) := by
  unfold decodeGo
  rw [tail_size, if_neg (by omega), tail_decode, Nat.add_zero, decodeL_drop]

theorem size_toList (s : ByteArray) : s.data.toList.length = s.size := by rw [Array.length_toList]; rfl

set_option maxHeartbeats 400000 in
theorem check_any {a : Nat → Addr} (s : ByteArray) (w : World) (hS : Std a w) (hs : s.size ≤ 281474976710656) :
    Calls Tryd.prog 10 #[.string s] w fun e w' => (∃ v, e = .returned (.tuple #[.int .i64 (brk s.data.toList), v]) ∧ (brk s.data.toList = s.size → v = .nilIface) ∧ (brk s.data.toList ≠ s.size → v = errV a 0)) ∧ Below w.heap.size w w' := by
  obtain ⟨L, hL⟩ : ∃ L, s.data.toList = L := ⟨_, rfl⟩
  have hlen : L.length = s.size := by rw [← hL]; exact size_toList s
  rw [hL]
  go_enter Tryd.func10, Tryd.ntmps10
  go_wp2
  go_loopw [4] (fun i wr => ∃ (k : Nat) (rs : List Nat) (t : List UInt8), i = .int .i64 k ∧ (∀ r ∈ rs, scal r) ∧ L = encs rs ++ t ∧ (encs rs).length = k ∧ Below w.heap.size w wr) (fun i _ => s.size - (RowKit.intOf i).toNat)
  case atStart => exact ⟨0, [], L, rfl, by simp, rfl, rfl, Below.refl _ _⟩
  case round =>
    obtain ⟨k, rs, t, rfl, hrs, he, hk, hb⟩ := hrel
    have hkt : L.drop k = t := by rw [he, ← hk, List.drop_left]
    have hkl : k + t.length = s.size := by rw [← hlen, he, List.length_append, hk]
    have hSr := hS.below hb
    by_cases hlt : k < s.size
    · have hd := decodeGo_drop s k hlt
      rw [hL, hkt] at hd
      by_cases hst : stuckL t
      · have hbad : decodeL t = (65533, 1) := by
          rcases hst with h0 | h0
          · exfalso; rw [h0] at hkl; simp at hkl; omega
          · exact h0
        rw [hbad] at hd
        have hbr : brk L = k := by rw [he, brk_eq hrs hst, hk]
        have hc : wr.cell? ⟨0, 0, none⟩ = some (errV a 0) := hSr.sent.cell 0 (by omega)
        have c := first_bad (s.extract k s.size) wr hSr.tabs 1 (by rw [hd]) (by rw [hd]) (by omega)
        have hg : ∀ w', Below wr.heap.size wr w' → w'.cell? ⟨0, 0, none⟩ = some (errV a 0) := fun w' hb' => ((hSr.below hb').sent.cell 0 (by omega))
        have H : Hid (brk L = k) := hbr
        clear hd hbad hst hkt hkl hbr he hrs hk hSr hS hlen hL
        go_wp2_with (go_at_call 27; refine c.mono ?_; rintro e w' ⟨rfl, hb'⟩; have hc' := hg w' hb')
        go_quiet (fail)
        go_wp2
        go_ret2
        rw [H.out]
        exact ⟨⟨_, rfl, fun h => by omega, fun _ => rfl⟩, below_drewN (hb.trans (hb'.mono hb.size)) _⟩
      · obtain ⟨r, hr, hdec, heq⟩ := head_enc hst
        obtain ⟨W, hWd⟩ : ∃ W, (enc r).length = W := ⟨_, rfl⟩
        have hW := enc_pos hr
        have hv : ¬ (r = 65533 ∧ W < 2) := by
          rintro ⟨rfl, h2⟩
          rw [← hWd, enc_len hr] at h2
          simp at h2
        have hW2 : k + W ≤ s.size := by
          have := congrArg List.length heq
          rw [List.length_append] at this
          omega
        rw [hdec, hWd] at hd
        rw [hWd] at hW
        have c := first_ok (s.extract k s.size) wr hSr.tabs r W (by rw [hd]) (by rw [hd]) hv
        have HE : Hid (L = encs (rs ++ [r]) ++ t.drop W) := by
          show _ = _
          rw [encs_snoc, List.append_assoc, ← hWd, ← heq, ← he]
        have HK : Hid ((encs (rs ++ [r])).length = k + W) := by
          show _ = _
          rw [encs_snoc, List.length_append, hk, hWd]
        have hrs' : ∀ x ∈ rs ++ [r], scal x := fun x hx => by
          rcases List.mem_append.1 hx with hx | hx
          · exact hrs x hx
          · rw [List.mem_singleton.1 hx]; exact hr
        have HR : Hid (∀ x ∈ rs ++ [r], scal x) := hrs'
        clear hd hdec hst hkt hkl he hrs hk hSr hS hlen hL heq hWd hrs' hv
        go_wp2_with (go_at_call 27; refine c.mono ?_; rintro e w' ⟨rfl, hb'⟩)
        go_roundw
        case rel => exact ⟨k + W, rs ++ [r], t.drop W, by go_num, HR.out, HE.out, HK.out, hb.trans (hb'.mono hb.size)⟩
        case measure => simp [RowKit.intOf]; omega
    · have ht : t = [] := List.eq_nil_of_length_eq_zero (by omega)
      have hbr : brk L = s.size := by rw [he, brk_eq hrs (Or.inl ht), hk]; omega
      have H : Hid (brk L = s.size) := hbr
      clear ht hbr hkt he hrs hk hSr hS hlen hL
      go_wp2
      go_ret2
      rw [H.out]
      exact ⟨⟨_, rfl, fun _ => rfl, fun h => absurd rfl h⟩, hb⟩

/-- The two ways of Check apart. -/
theorem check_ok {a : Nat → Addr} (s : ByteArray) (w : World) (hS : Std a w) (hs : s.size ≤ 281474976710656) (h : brk s.data.toList = s.size) :
    Calls Tryd.prog 10 #[.string s] w fun e w' => e = .returned (.tuple #[.int .i64 s.size, .nilIface]) ∧ Below w.heap.size w w' :=
  (check_any s w hS hs).mono fun e w' ⟨⟨v, he, hv, _⟩, hb⟩ => ⟨by rw [he, h, hv h], hb⟩
theorem check_no {a : Nat → Addr} (s : ByteArray) (w : World) (hS : Std a w) (hs : s.size ≤ 281474976710656) (h : brk s.data.toList ≠ s.size) :
    Calls Tryd.prog 10 #[.string s] w fun e w' => e = .returned (.tuple #[.int .i64 (brk s.data.toList), errV a 0]) ∧ Below w.heap.size w w' :=
  (check_any s w hS hs).mono fun e w' ⟨⟨v, he, _, hv⟩, hb⟩ => ⟨by rw [he, hv h], hb⟩

/-- How many scalars UTF-8 has. -/
theorem runeCountFrom_encs (s : ByteArray) : ∀ (rs : List Nat) (f pos : Nat), (∀ r ∈ rs, scal r) → s.data.toList.drop pos = encs rs → s.size - pos ≤ f → runeCountFrom s f pos = rs.length
  | [], f, pos, _, h, hf => by
    have := congrArg List.length h
    rw [List.length_drop, size_toList] at this
    exact runeCountFrom_end s f pos (by simp [encs] at this; omega)
  | r :: rs, 0, pos, hr, h, hf => by
    exfalso
    have := congrArg List.length h
    have hp := enc_pos (hr r (by simp))
    rw [List.length_drop, size_toList, encs, List.length_append] at this
    omega
  | r :: rs, f + 1, pos, hr, h, hf => by
    have hl := congrArg List.length h
    have hrr := hr r (by simp)
    have hp := enc_pos hrr
    rw [List.length_drop, size_toList, encs, List.length_append] at hl
    have hd : Utf8.decode s pos = (r, (enc r).length) := by
      rw [← decodeL_drop, h, encs, dec_enc hrr]
    rw [runeCountFrom, if_pos (by omega), hd]
    have ih := runeCountFrom_encs s rs f (pos + (enc r).length) (fun x hx => hr x (by simp [hx])) (by rw [← List.drop_drop, h, encs, List.drop_left]) (by omega)
    simp only []
    rw [ih, List.length_cons]; omega
theorem runeCount_scs (s : ByteArray) (h : brk s.data.toList = s.size) : runeCount s = (scs s.data.toList).length := by
  have hv := valid_of_brk (l := s.data.toList) (by rw [h, size_toList])
  obtain ⟨_, h1, _, _⟩ := text_cases s.data.toList
  exact runeCountFrom_encs s _ _ 0 h1 (by rw [List.drop_zero]; exact hv) (Nat.le_refl _)

theorem len_ok {a : Nat → Addr} (s : ByteArray) (w : World) (hS : Std a w) (hs : s.size ≤ 281474976710656) (h : brk s.data.toList = s.size) :
    Calls Tryd.prog 15 #[.string s] w fun e w' => e = .returned (.tuple #[.int .i64 (scs s.data.toList).length, .nilIface]) ∧ Below w.heap.size w w' := by
  have c := check_ok s w hS hs h
  have d : ∀ W, Calls Tryd.prog 31 #[.string s] W fun e w' => e = .returned (.int .i64 (scs s.data.toList).length) ∧ ∃ pos, w' = W.iter s pos := fun W => by
    have := Tryd.utf8_RuneCountInString s W (by omega)
    rwa [runeCount_scs s h] at this
  clear hS h
  go_enter Tryd.func15, Tryd.ntmps15
  go_wp2_with (first | (go_at_call 10; refine c.mono ?_; rintro e w' ⟨rfl, hb⟩) | (go_at_call 31; refine (d _).mono ?_; rintro e w2 ⟨rfl, pos, rfl⟩))
  go_ret2
  exact ⟨rfl, hb.alloc hb.size _⟩

theorem len_no {a : Nat → Addr} (s : ByteArray) (w : World) (hS : Std a w) (hs : s.size ≤ 281474976710656) (h : brk s.data.toList ≠ s.size) :
    Calls Tryd.prog 15 #[.string s] w fun e w' => e = .returned (.tuple #[.int .i64 0, errV a 0]) ∧ Below w.heap.size w w' := by
  have c := check_no s w hS hs h
  clear hS h
  go_enter Tryd.func15, Tryd.ntmps15
  go_wp2_with (go_at_call 10; refine c.mono ?_; rintro e w' ⟨rfl, hb⟩)
  go_ret2
  exact ⟨rfl, hb⟩
end Go.Proofs.YtdnelmbihblakaaDoor
