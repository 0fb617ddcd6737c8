/- vellumlaw01.sameRunes on slices wherever they lie; and that vellumlaw01.lives answers true. -/
import Derived.Test.YtdnelmbihblakaaDoorLst
import Derived.Handy
namespace Go.Proofs.YtdnelmbihblakaaDoor
open Go Go.RowKit Go.Lib
set_option linter.unusedVariables false

theorem list_no {a : Nat → Addr} (s : ByteArray) (w : World) (hS : Std a w) (hs : s.size ≤ 281474976710656) (h : brk s.data.toList ≠ s.size) :
    Calls Tryd.prog 14 #[.string s] w fun e w' => e = .returned (.tuple #[.slice none 0 0, errV a 0]) ∧ Below w.heap.size w w' := by
  have c := len_no s w hS hs h
  clear hS h
  go_enter Tryd.func14, Tryd.ntmps14
  go_wp2_with (go_at_call 15; refine c.mono ?_; rintro e w' ⟨rfl, hb⟩)
  go_ret2
  exact ⟨rfl, hb⟩

set_option maxHeartbeats 1000000 in
theorem same_any (v u : Value) (xs ys : List Int) (w : World) (hv : Row32 w v xs) (hu : Row32 w u ys) (hx : xs.length ≤ 281474976710656) (hy : ys.length ≤ 281474976710656) :
    Calls Tryd.prog 16 #[v, u] w fun e w' => e = .returned (.bool (decide (xs = ys))) ∧ Below w.heap.size w w' := by
  obtain ⟨p, cap, rfl, hc⟩ := hv.ex
  obtain ⟨q, cap2, rfl, hd⟩ := hu.ex
  obtain ⟨n, hn⟩ : ∃ n, xs.length = n := ⟨_, rfl⟩
  obtain ⟨m, hm⟩ : ∃ m, ys.length = m := ⟨_, rfl⟩
  rw [hn] at hc hx ⊢
  rw [hm] at hd hy ⊢
  clear hv hu
  by_cases hnm : n = m
  · subst hnm
    have HN : Hid (xs.length = n) := hn
    have HM : Hid (ys.length = n) := hm
    clear hn hm
    go_enter Tryd.func16, Tryd.ntmps16
    go_wp2
    go_loopw [13] (fun i wr => ∃ k j : Nat, k ≤ n ∧ i = .int .i64 k ∧ wr = w.drewN j ∧ ∀ j, j < k → xs.getD j 0 = ys.getD j 0) (fun i _ => n - (RowKit.intOf i).toNat)
    case atStart => exact ⟨0, 0, Nat.zero_le _, rfl, rfl, fun j hj => by omega⟩
    case round =>
      obtain ⟨k, jj, hk, rfl, rfl, hall⟩ := hrel
      have HA : Hid (∀ j, j < k → xs.getD j 0 = ys.getD j 0) := hall
      clear hall
      by_cases hlt : k < n
      · obtain ⟨b, off, rfl, hc1⟩ := hc k hlt
        obtain ⟨b2, off2, rfl, hd1⟩ := hd k hlt
        obtain ⟨x, hxx⟩ : ∃ x, xs.getD k 0 = x := ⟨_, rfl⟩
        obtain ⟨y, hyy⟩ : ∃ y, ys.getD k 0 = y := ⟨_, rfl⟩
        rw [hxx] at hc1
        rw [hyy] at hd1
        have HX : Hid (xs.getD k 0 = x) := hxx
        have HY : Hid (ys.getD k 0 = y) := hyy
        clear hc hd hxx hyy
        by_cases hxy : x = y
        · subst hxy
          go_wp2
          go_quiet (fail)
          go_wp2
          go_roundw
          case rel =>
            refine ⟨k + 1, _, by omega, by go_num, rfl, fun j hj => ?_⟩
            by_cases hjk : j < k
            · exact HA.out j hjk
            · obtain rfl : j = k := by omega
              rw [HX.out, HY.out]
          case measure => simp [RowKit.intOf]; omega
        · have hne : ¬ (xs = ys) := fun e => hxy (by rw [← HX.out, ← HY.out, e])
          have HD : Hid (decide (xs = ys) = false) := decide_eq_false hne
          clear hne
          go_wp2
          go_quiet (fail)
          go_wp2
          go_ret
          rw [HD.out]
          exact ⟨rfl, below_drewN (below_drewN (Below.refl _ _) _) _⟩
      · have he : xs = ys := by
          apply List.ext_getElem (by rw [HN.out, HM.out])
          intro j h1 h2
          have := HA.out j (by have := HN.out; omega)
          simpa [List.getD, List.getElem?_eq_getElem h1, List.getElem?_eq_getElem h2] using this
        have HD : Hid (decide (xs = ys) = true) := decide_eq_true he
        clear he hc hd
        go_wp2
        go_ret
        rw [HD.out]
        exact ⟨rfl, below_drewN (Below.refl _ _) _⟩
  · have hne : ¬ (xs = ys) := fun e => hnm (by rw [← hn, ← hm, e])
    have HD : Hid (decide (xs = ys) = false) := decide_eq_false hne
    have hnm' : ¬ (n : Int) = m := by omega
    clear hne hn hm hc hd hnm
    go_enter Tryd.func16, Tryd.ntmps16
    go_wp2
    go_ret
    rw [HD.out]
    exact ⟨rfl, Below.refl _ _⟩

/-- A contract, said from an earlier world on. -/
theorem from_here {w W : World} {f : FuncId} {args : Array Value} {X : Ending → World → Prop} (hb : Below w.heap.size w W) (c : Calls Tryd.prog f args W fun e w' => X e w' ∧ Below W.heap.size W w') :
    Calls Tryd.prog f args W fun e w' => X e w' ∧ Below W.heap.size W w' ∧ Below w.heap.size w w' :=
  c.mono fun e w' ⟨h, k⟩ => ⟨h, k, hb.trans (k.mono hb.size)⟩

theorem row_new (w : World) (z : Int) (t : TypeId) : Row32 (w.alloc (.cells #[.int .i32 z] t)) (.slice (some ⟨w.heap.size, 0, none⟩) 1 1) [z] :=
  ⟨some ⟨w.heap.size, 0, none⟩, 1, rfl, fun j hj => by
    obtain rfl : j = 0 := by simp at hj; omega
    exact ⟨_, _, rfl, by simp⟩⟩

set_option maxHeartbeats 2000000 in
theorem lives_any {a : Nat → Addr} (w : World) (hS : Std a w) :
    Calls Tryd.prog 9 #[] w fun e w' => e = .returned (.bool true) ∧ Below w.heap.size w w' := by
  have H : ∀ {W}, Below w.heap.size w W → Std a W := fun hb => hS.below hb
  have c1 : ∀ W, Below w.heap.size w W → Calls Tryd.prog 15 #[.string ⟨#[97, 195, 169, 226, 130, 172]⟩] W fun e w' => e = .returned (.tuple #[.int .i64 3, .nilIface]) ∧ Below W.heap.size W w' ∧ Below w.heap.size w w' := fun W hb => by
    have := len_ok ⟨#[97, 195, 169, 226, 130, 172]⟩ W (H hb) (by decide) (by kernel_rfl)
    rw [show (((scs (ByteArray.mk #[97, 195, 169, 226, 130, 172]).data.toList).length : Nat) : Int) = 3 from by kernel_rfl] at this
    exact from_here (X := fun e _ => e = _) hb this
  have c2 : ∀ W, Below w.heap.size w W → Calls Tryd.prog 18 #[.string ⟨#[97, 195, 169, 226, 130, 172]⟩, .int .i64 2] W fun e w' => e = .returned (.tuple #[.string ⟨#[97, 195, 169]⟩, .string ⟨#[226, 130, 172]⟩, .nilIface]) ∧ Below W.heap.size W w' ∧ Below w.heap.size w w' := fun W hb => by
    have := cut_ok ⟨#[97, 195, 169, 226, 130, 172]⟩ 2 W (H hb) (by decide) (by kernel_rfl) (by decide +kernel)
    rw [show (ByteArray.mk #[97, 195, 169, 226, 130, 172]).extract 0 (pos (scs (ByteArray.mk #[97, 195, 169, 226, 130, 172]).data.toList) 2) = ⟨#[97, 195, 169]⟩ from by kernel_rfl, show (ByteArray.mk #[97, 195, 169, 226, 130, 172]).extract (pos (scs (ByteArray.mk #[97, 195, 169, 226, 130, 172]).data.toList) 2) (ByteArray.mk #[97, 195, 169, 226, 130, 172]).size = ⟨#[226, 130, 172]⟩ from by kernel_rfl] at this
    exact from_here (X := fun e _ => e = _) hb this
  have c3 : ∀ W, Below w.heap.size w W → Calls Tryd.prog 14 #[.string ⟨#[195, 169]⟩] W fun e w' => (∃ v, e = .returned (.tuple #[v, .nilIface]) ∧ Row32 w' v [233]) ∧ Below W.heap.size W w' ∧ Below w.heap.size w w' := fun W hb => by
    have := list_ok ⟨#[195, 169]⟩ W (H hb) (by decide) (by kernel_rfl)
    rw [show ints (scs (ByteArray.mk #[195, 169]).data.toList) = [233] from by kernel_rfl] at this
    exact from_here (X := fun e w' => ∃ v, e = .returned (.tuple #[v, .nilIface]) ∧ Row32 w' v [233]) hb (this.mono fun e w' ⟨v, h1, h2, h3⟩ => ⟨⟨v, h1, owns_row32 h2⟩, h3⟩)
  have c4 : ∀ W, Below w.heap.size w W → Calls Tryd.prog 10 #[.string ⟨#[97, 195]⟩] W fun e w' => e = .returned (.tuple #[.int .i64 1, errV a 0]) ∧ Below W.heap.size W w' ∧ Below w.heap.size w w' := fun W hb => by
    have := check_no ⟨#[97, 195]⟩ W (H hb) (by decide) (by decide +kernel)
    rw [show ((brk (ByteArray.mk #[97, 195]).data.toList : Nat) : Int) = 1 from by kernel_rfl] at this
    exact from_here (X := fun e _ => e = _) hb this
  have c5 : ∀ v W, Below w.heap.size w W → Row32 W v [128512] → Calls Tryd.prog 21 #[v] W fun e w' => e = .returned (.tuple #[.string ⟨#[240, 159, 152, 128]⟩, .nilIface]) ∧ Below W.heap.size W w' ∧ Below w.heap.size w w' := fun v W hb hv => by
    have := text_ok (a := a) v [128512] W hv (by intro r hr; rw [List.mem_singleton.1 hr]; unfold scal; omega) (by decide)
    rw [show (encs [128512]).toArray = #[240, 159, 152, 128] from by kernel_rfl] at this
    exact from_here (X := fun e _ => e = _) hb this
  have c6 : ∀ W, Below w.heap.size w W → Calls Tryd.prog 25 #[.int .i32 55357, .int .i32 56832] W fun e w' => e = .returned (.tuple #[.int .i32 128512, .nilIface]) ∧ Below W.heap.size W w' ∧ Below w.heap.size w w' := fun W hb =>
    (pair_ok 55357 56832 W (by omega) (by omega) (by omega) (by omega)).mono fun e w' ⟨h1, h2⟩ => ⟨h1, by rw [h2]; exact ⟨Below.refl _ _, hb⟩⟩
  have c7 : ∀ v u W, Below w.heap.size w W → Row32 W v [233] → Row32 W u [233] → Calls Tryd.prog 16 #[v, u] W fun e w' => e = .returned (.bool true) ∧ Below W.heap.size W w' ∧ Below w.heap.size w w' := fun v u W hb hv hu =>
    from_here (X := fun e _ => e = _) hb (same_any v u [233] [233] W hv hu (by decide) (by decide))
  have c8 : ∀ W, Below w.heap.size w W → Calls Tryd.prog 12 #[errV a 0] W fun e w' => e = .returned (.int .i64 1) ∧ Below W.heap.size W w' ∧ Below w.heap.size w w' := fun W hb =>
    from_here (X := fun e _ => e = _) hb (num_err (H hb).sent 0 (by omega))
  have c9 : ∀ W, Below w.heap.size w W → Calls Tryd.prog 23 #[.int .i32 233] W fun e w' => e = .returned (.int .i64 2) ∧ Below W.heap.size W w' ∧ Below w.heap.size w w' := fun W hb =>
    (width_any 233 W).mono fun e w' ⟨h1, h2⟩ => ⟨h1, by rw [h2]; exact ⟨Below.refl _ _, hb⟩⟩
  have hw := Below.refl w.heap.size w
  clear hS H
  go_enter Tryd.func9, Tryd.ntmps9
  go_wp2_with fail
  refine (c1 _ hw).mono ?_; rintro e w1 ⟨rfl, _, hb1⟩
  go_wp2_with fail
  refine (c2 _ hb1).mono ?_; rintro e w2 ⟨rfl, _, hb2⟩
  clear c1 c2 hb1
  go_wp2_with fail
  refine (c3 _ hb2).mono ?_; rintro e w3 ⟨⟨v, rfl, hv3⟩, _, hb3⟩
  go_wp2_with fail
  refine (c4 _ hb3).mono ?_; rintro e w4 ⟨rfl, k4, hb4⟩
  have hv4 := hv3.below k4
  clear c3 c4 hb2 hb3 hv3 k4
  go_wp2_with fail
  have hb5 : Below w.heap.size w (w4.alloc (.cells #[.int .i32 128512] 21)) := hb4.alloc hb4.size _
  have hv5 := hv4.below ((Below.refl _ _).alloc (Nat.le_refl _) (.cells #[.int .i32 128512] 21))
  refine (c5 _ _ hb5 (row_new w4 128512 21)).mono ?_; rintro e w5 ⟨rfl, k5, hb6⟩
  have hv6 := hv5.below k5
  clear c5 hb4 hb5 hv4 hv5 k5
  go_wp2_with fail
  refine (c6 _ hb6).mono ?_; rintro e w6 ⟨rfl, k6, hb7⟩
  have hv7 := hv6.below k6
  clear c6 hb6 hv6 k6
  go_wp2_with fail
  have hb8 : Below w.heap.size w (w6.alloc (.cells #[.int .i32 233] 21)) := hb7.alloc hb7.size _
  have hv8 := hv7.below ((Below.refl _ _).alloc (Nat.le_refl _) (.cells #[.int .i32 233] 21))
  refine (c7 _ _ _ hb8 hv8 (row_new w6 233 21)).mono ?_; rintro e w7 ⟨rfl, _, hb9⟩
  clear c7 hb7 hb8 hv7 hv8
  go_wp2_with fail
  refine (c8 _ hb9).mono ?_; rintro e w8 ⟨rfl, _, hb10⟩
  clear c8 hb9
  go_wp2_with fail
  refine (c9 _ hb10).mono ?_; rintro e w9 ⟨rfl, _, hb11⟩
  go_wp2
  go_ret
  exact ⟨rfl, hb11⟩
end Go.Proofs.YtdnelmbihblakaaDoor
