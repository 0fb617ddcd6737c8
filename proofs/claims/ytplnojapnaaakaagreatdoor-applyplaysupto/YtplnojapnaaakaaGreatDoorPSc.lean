/- What scalars.first and scalars.Check answer (Sca.tpl's part that every later layer needs). -/
import Derived.Test.YtplnojapnaaakaaGreatDoorPEr
import Derived.Test.YtplnojapnaaakaaGreatDoorPShelf
import Derived.Test.YtplnojapnaaakaaGreatDoorPUtf
namespace Go.Proofs.YtplnojapnaaakaaGreatDoor
open Go Go.RowKit Go.Lib
set_option linter.unusedVariables false
/-- What a call finds in memory: the sentinels, and utf8's two tables. -/
structure Std (I : List Nat) (a : Nat → Addr) (w : World) : Prop where
  er : Er I a w
  tabs : Utf8Tabs 19 20 w
theorem Std.below {I : List Nat} {a : Nat → Addr} {w w' : World} (h : Std I a w) (hb : Below w.heap.size w w') : Std I a w' := ⟨h.er.below hb, Utf8Tabs_below h.tabs hb⟩

theorem first_ok (s : ByteArray) (w : World) (hT : Utf8Tabs 19 20 w) (R W : Nat) (hR : (decodeGo s).1 = R) (hW : (decodeGo s).2 = W) (hv : ¬ (R = 65533 ∧ W < 2)) :
    Calls Tryz.prog 172 #[.string s] w fun e w' => e = .returned (.tuple #[.int .i32 R, .int .i64 W]) ∧ Below w.heap.size w w' := by
  have c := Tryz.utf8_DecodeRuneInString s w hT
  rw [hR, hW] at c
  clear hR hW
  by_cases h1 : R = 65533
  · have h2 : ¬ ((W : Int) < 2) := by omega
    subst h1
    clear hv
    go_enter Tryz.func172, Tryz.ntmps172
    go_wp2_with (go_at_call 175; refine c.mono ?_; rintro e w' ⟨rfl, hb⟩)
    go_ret2
    exact ⟨rfl, hb⟩
  · have h2 : ¬ ((R : Int) = 65533) := by omega
    clear hv h1
    go_enter Tryz.func172, Tryz.ntmps172
    go_wp2_with (go_at_call 175; refine c.mono ?_; rintro e w' ⟨rfl, hb⟩)
    go_ret2
    exact ⟨rfl, hb⟩

theorem first_bad (s : ByteArray) (w : World) (hT : Utf8Tabs 19 20 w) (W : Nat) (hR : (decodeGo s).1 = 65533) (hW : (decodeGo s).2 = W) (hv : W < 2) :
    Calls Tryz.prog 172 #[.string s] w fun e w' => e = .returned (.tuple #[.int .i32 0, .int .i64 0]) ∧ Below w.heap.size w w' := by
  have c := Tryz.utf8_DecodeRuneInString s w hT
  rw [hR, hW] at c
  clear hR hW
  have h2 : (W : Int) < 2 := by omega
  go_enter Tryz.func172, Tryz.ntmps172
  go_wp2_with (go_at_call 175; refine c.mono ?_; rintro e w' ⟨rfl, hb⟩)
  go_ret2
  exact ⟨rfl, hb⟩

theorem decodeGo_drop (s : ByteArray) (k : Nat) (hk : k < s.size) : decodeGo (s.extract k s.size) = decodeL (s.data.toList.drop k) := by
  unfold decodeGo
  rw [tail_size, if_neg (by omega), tail_decode, Nat.add_zero, decodeL_drop]

theorem size_toList (s : ByteArray) : s.data.toList.length = s.size := by rw [Array.length_toList]; rfl

set_option maxHeartbeats 400000 in
theorem check_any {I : List Nat} {a : Nat → Addr} (s : ByteArray) (w : World) (hI : 0 ∈ I) (hS : Std I a w) (hs : s.size ≤ 281474976710656) :
    Calls Tryz.prog 162 #[.string s] w fun e w' => (∃ v, e = .returned (.tuple #[.int .i64 (brk s.data.toList), v]) ∧ (brk s.data.toList = s.size → v = .nilIface) ∧ (brk s.data.toList ≠ s.size → v = errV a 0)) ∧ Below w.heap.size w w' := by
  obtain ⟨L, hL⟩ : ∃ L, s.data.toList = L := ⟨_, rfl⟩
  have hlen : L.length = s.size := by rw [← hL]; exact size_toList s
  rw [hL]
  go_enter Tryz.func162, Tryz.ntmps162
  go_wp2
  go_loopw [4] (fun i wr => ∃ (k : Nat) (rs : List Nat) (t : List UInt8), i = .int .i64 k ∧ (∀ r ∈ rs, scal r) ∧ L = encs rs ++ t ∧ (encs rs).length = k ∧ Below w.heap.size w wr) (fun i _ => s.size - (RowKit.intOf i).toNat)
  case atStart => exact ⟨0, [], L, rfl, by simp, rfl, rfl, Below.refl _ _⟩
  case round =>
    obtain ⟨k, rs, t, rfl, hrs, he, hk, hb⟩ := hrel
    have hkt : L.drop k = t := by rw [he, ← hk, List.drop_left]
    have hkl : k + t.length = s.size := by rw [← hlen, he, List.length_append, hk]
    have hSr := hS.below hb
    by_cases hlt : k < s.size
    · have hd := decodeGo_drop s k hlt
      rw [hL, hkt] at hd
      by_cases hst : stuckL t
      · have hbad : decodeL t = (65533, 1) := by
          rcases hst with h0 | h0
          · exfalso; rw [h0] at hkl; simp at hkl; omega
          · exact h0
        rw [hbad] at hd
        have hbr : brk L = k := by rw [he, brk_eq hrs hst, hk]
        have hc : wr.cell? ⟨2, 0, none⟩ = some (errV a 0) := hSr.er.cell 0 hI
        have c := first_bad (s.extract k s.size) wr hSr.tabs 1 (by rw [hd]) (by rw [hd]) (by omega)
        have hg : ∀ w', Below wr.heap.size wr w' → w'.cell? ⟨2, 0, none⟩ = some (errV a 0) := fun w' hb' => ((hSr.below hb').er.cell 0 hI)
        have H : Hid (brk L = k) := hbr
        clear hd hbad hst hkt hkl hbr he hrs hk hSr hS hlen hL
        go_wp2_with (go_at_call 172; refine c.mono ?_; rintro e w' ⟨rfl, hb'⟩; have hc' := hg w' hb')
        go_quiet (fail)
        go_wp2
        go_ret2
        rw [H.out]
        exact ⟨⟨_, rfl, fun h => by omega, fun _ => rfl⟩, below_drewN (hb.trans (hb'.mono hb.size)) _⟩
      · obtain ⟨r, hr, hdec, heq⟩ := head_enc hst
        obtain ⟨W, hWd⟩ : ∃ W, (enc r).length = W := ⟨_, rfl⟩
        have hW := enc_pos hr
        have hv : ¬ (r = 65533 ∧ W < 2) := by
          rintro ⟨rfl, h2⟩
          rw [← hWd, enc_len hr] at h2
          simp at h2
        have hW2 : k + W ≤ s.size := by
          have := congrArg List.length heq
          rw [List.length_append] at this
          omega
        rw [hdec, hWd] at hd
        rw [hWd] at hW
        have c := first_ok (s.extract k s.size) wr hSr.tabs r W (by rw [hd]) (by rw [hd]) hv
        have HE : Hid (L = encs (rs ++ [r]) ++ t.drop W) := by
          show _ = _
          rw [encs_snoc, List.append_assoc, ← hWd, ← heq, ← he]
        have HK : Hid ((encs (rs ++ [r])).length = k + W) := by
          show _ = _
          rw [encs_snoc, List.length_append, hk, hWd]
        have hrs' : ∀ x ∈ rs ++ [r], scal x := fun x hx => by
          rcases List.mem_append.1 hx with hx | hx
          · exact hrs x hx
          · rw [List.mem_singleton.1 hx]; exact hr
        have HR : Hid (∀ x ∈ rs ++ [r], scal x) := hrs'
        clear hd hdec hst hkt hkl he hrs hk hSr hS hlen hL heq hWd hrs' hv
        go_wp2_with (go_at_call 172; refine c.mono ?_; rintro e w' ⟨rfl, hb'⟩)
        go_roundw
        case rel => exact ⟨k + W, rs ++ [r], t.drop W, by go_num, HR.out, HE.out, HK.out, hb.trans (hb'.mono hb.size)⟩
        case measure => simp [RowKit.intOf]; omega
    · have ht : t = [] := List.eq_nil_of_length_eq_zero (by omega)
      have hbr : brk L = s.size := by rw [he, brk_eq hrs (Or.inl ht), hk]; omega
      have H : Hid (brk L = s.size) := hbr
      clear ht hbr hkt he hrs hk hSr hS hlen hL
      go_wp2
      go_ret2
      rw [H.out]
      exact ⟨⟨_, rfl, fun _ => rfl, fun h => absurd rfl h⟩, hb⟩

/-- The two ways of Check apart. -/
theorem check_ok {I : List Nat} {a : Nat → Addr} (s : ByteArray) (w : World) (hI : 0 ∈ I) (hS : Std I a w) (hs : s.size ≤ 281474976710656) (h : brk s.data.toList = s.size) :
    Calls Tryz.prog 162 #[.string s] w fun e w' => e = .returned (.tuple #[.int .i64 s.size, .nilIface]) ∧ Below w.heap.size w w' :=
  (check_any s w hI hS hs).mono fun e w' ⟨⟨v, he, hv, _⟩, hb⟩ => ⟨by rw [he, h, hv h], hb⟩
theorem check_no {I : List Nat} {a : Nat → Addr} (s : ByteArray) (w : World) (hI : 0 ∈ I) (hS : Std I a w) (hs : s.size ≤ 281474976710656) (h : brk s.data.toList ≠ s.size) :
    Calls Tryz.prog 162 #[.string s] w fun e w' => e = .returned (.tuple #[.int .i64 (brk s.data.toList), errV a 0]) ∧ Below w.heap.size w w' :=
  (check_any s w hI hS hs).mono fun e w' ⟨⟨v, he, _, hv⟩, hb⟩ => ⟨by rw [he, hv h], hb⟩

end Go.Proofs.YtplnojapnaaakaaGreatDoor
