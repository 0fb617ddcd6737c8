/- What scalars.Each hands over, for whatever loop body. -/
import Derived.RangeFuncNested
import Derived.RangeFuncBound
import Derived.RangeFuncCalls
import Derived.RangeFuncLeaves
import Derived.Shelf.Abstract
import Derived.Shelf.RegionOpen
import Derived.WalkKit
import Derived.OwnWalkIn
import Derived.TacticsInMore
import Derived.LoopNIn
import Derived.LoopIn
import Derived.Test.YtdnelmbihblakaaDoorVt
namespace Go.Proofs.YtdnelmbihblakaaDoor
open Go Go.RowKit Go.Lib Go.Shelf
set_option linter.unusedVariables false
attribute [local go_sem] Oper.semAt_some

abbrev eenc (x : Nat × Nat) : Array Value := #[.int .i64 x.1, .int .i32 x.2]
/-- The scalars, each with the number of its first byte. -/
def tgt (rs : List Nat) : List (Nat × Nat) := (List.range rs.length).map fun k => (pos rs k, rs.getD k 0)
theorem tgt_len (rs : List Nat) : (tgt rs).length = rs.length := by simp [tgt]
theorem tgt_get (rs : List Nat) (k : Nat) (h : k < rs.length) : (tgt rs)[k]'(by rw [tgt_len]; exact h) = (pos rs k, rs[k]) := by
  simp [tgt, List.getD, List.getElem?_eq_getElem h]
theorem tgt_snoc (rs : List Nat) (k : Nat) (h : k < rs.length) : (tgt rs).take (k + 1) = (tgt rs).take k ++ [(pos rs k, rs[k])] := by
  rw [List.take_succ_eq_append_getElem (by rw [tgt_len]; exact h), tgt_get rs k h]

theorem grown_of_below {w w' : World} (h : Below w.heap.size w w') : w.grownBy w' none :=
  ⟨h.os, h.tape, h.output, h.size, fun k hk _ => h.block k hk⟩
theorem others_of_below {w w' : World} (h : Below w.heap.size w w') : KeepsOthers w w' :=
  ⟨h.size, fun k o hk _ => (h.block k (Array.getElem?_eq_some_iff.1 hk).1).trans hk⟩

theorem each_call (s : ByteArray) (w : World) :
    Calls Tryd.prog 32 #[.string s] w fun e w' => e = .returned (.func (.func 42) #[] #[.pointer (some ⟨w.heap.size, 0, none⟩)]) ∧ w' = w.alloc (.cells #[.string s] 9) := by
  go_enter Tryd.func32, Tryd.ntmps32
  go_wp2
  go_ret
  exact ⟨rfl, rfl⟩

/-- What stands at the place of a scalar, and at the place where they end. -/
theorem at_pos {s : ByteArray} {rs : List Nat} {t : List UInt8} (he : s.data.toList = encs rs ++ t) (h : scals rs) (k : Nat) (hk : k < rs.length) :
    decodeGo (s.extract (pos rs k) s.size) = (rs[k], (enc rs[k]).length) ∧ pos rs k < s.size ∧ pos rs (k + 1) ≤ s.size := by
  have hr : scal rs[k] := h _ (List.getElem_mem hk)
  have hp := enc_pos hr
  have h1 := pos_succ rs k hk
  have h2 := pos_le rs (k + 1)
  have h3 := size_toList s
  rw [he, List.length_append] at h3
  refine ⟨?_, by omega, by omega⟩
  rw [decodeGo_drop s _ (by omega), he, List.drop_append_of_le_length (by omega), drop_pos, List.drop_eq_getElem_cons hk, encs, List.append_assoc, dec_enc hr]
theorem at_end {s : ByteArray} {rs : List Nat} {t : List UInt8} (he : s.data.toList = encs rs ++ t) (ht : stuckL t) (hlt : pos rs rs.length < s.size) :
    decodeGo (s.extract (pos rs rs.length) s.size) = (65533, 1) := by
  have h3 := size_toList s
  rw [he, List.length_append] at h3
  rw [decodeGo_drop s _ hlt, he, pos_all, List.drop_left]
  rcases ht with h0 | h0
  · exfalso
    rw [pos_all] at hlt
    rw [h0] at h3
    simp at h3
    omega
  · exact h0

set_option maxHeartbeats 2000000 in
set_option maxRecDepth 100000 in
theorem each_stops {ad : Nat → Addr} (s : ByteArray) (rs : List Nat) (t : List UInt8) (he : s.data.toList = encs rs ++ t) (hrs : scals rs) (ht : stuckL t) (hs : s.size ≤ 1048576)
    (w0 : World) (hS : Std ad w0) (B : Nat) (hB : w0.cell? ⟨B, 0, none⟩ = some (.string s)) (n : Nat) (hn : 1 ≤ n) (w : World) (hw : Below w0.heap.size w0 w) :
    SeqStopsK Fence.wide n Tryd.prog 42 #[.pointer (some ⟨B, 0, none⟩)] eenc (Below w0.heap.size) (fun xs => xs = tgt rs) (fun pre => pre <+: tgt rs) rs.length w := fun l J Jx W hW hJ hJx hY h0 => by
  have hBW : ∀ W', Below w0.heap.size w0 W' → W'.cell? ⟨B, 0, none⟩ = some (.string s) := fun W' h => by
    rw [h.cell (lt_of_cell hB)]; exact hB
  have hw0 : Below w0.heap.size w0 W := hw.trans (hW.mono hw.size)
  have HY : Hid (∀ k (hk : k < rs.length) W1, J ((tgt rs).take k) W1 → YieldAt Fence.wide (n - 1) Tryd.prog l #[.int .i64 (pos rs k : Nat), .int .i32 (rs[k] : Nat)] W1 fun e W' =>
      (e = .returned (.bool true) ∧ J ((tgt rs).take (k + 1)) W' ∧ Below w0.heap.size W1 W') ∨ (e = .returned (.bool false) ∧ Jx ((tgt rs).take (k + 1)) W')) := fun k hk W1 hJ1 => by
    rw [tgt_snoc rs k hk]
    exact hY _ (pos rs k, rs[k]) W1 hJ1 (by rw [List.length_take, tgt_len]; omega)
  have HJ : Hid (∀ p W1 W2, J p W1 → Below W1.heap.size W1 W2 → J p W2) := fun p W1 W2 h1 h2 => hJ p W1 W2 none h1 (grown_of_below h2) (fun r e => by cases e)
  have HP : Hid (scals rs ∧ s.data.toList = encs rs ++ t ∧ stuckL t ∧ Std ad w0) := ⟨hrs, he, ht, hS⟩
  obtain ⟨m, hm⟩ : ∃ m, rs.length = m := ⟨_, rfl⟩
  have HM : Hid (rs.length = m) := hm
  clear hY hJ hJx hS hB hw hW hrs he ht
  clear hm
  refine callsIn_of_wp Tryd.func42 rfl trivial ?_ rfl
  simp only [Tryd.ntmps42, List.size_toArray, List.length_cons, List.length_nil, Nat.reduceAdd, Nat.reduceSub, Array.replicate_succ, Array.replicate_zero, List.push_toArray, List.append_toArray, List.nil_append, List.cons_append]
  gi_wp2
  gi_loopw [3] (fun at' wr => ∃ k : Nat, k ≤ m ∧ at' = .int .i64 (pos rs k : Nat) ∧ J ((tgt rs).take k) wr ∧ Below w0.heap.size w0 wr) (fun at' _ => s.size - (RowKit.intOf at').toNat)
  case atStart => exact ⟨0, Nat.zero_le _, rfl, h0, hw0⟩
  case round =>
    clear h0 hw0
    obtain ⟨k, hk, rfl, hJk, hb⟩ := hrel
    have hcs := hBW wr hb
    obtain ⟨hrs, he, ht, hS⟩ := HP.out
    have hSr := hS.below hb
    by_cases hlt : k < m
    · obtain ⟨h1, h2, h3⟩ := at_pos he hrs k (by rw [HM.out]; exact hlt)
      have hr := hrs _ (List.getElem_mem (show k < rs.length by rw [HM.out]; exact hlt))
      have hep := enc_pos hr
      have h4 := pos_succ rs k (by rw [HM.out]; exact hlt)
      have hY := HY.out k (by rw [HM.out]; exact hlt)
      have hv : ¬ (rs[k]'(by rw [HM.out]; exact hlt) = 65533 ∧ (enc (rs[k]'(by rw [HM.out]; exact hlt))).length < 2) := by
        rintro ⟨e1, e2⟩
        rw [enc_len hr, e1] at e2
        simp at e2
      have c := first_ok (s.extract (pos rs k) s.size) wr hSr.tabs _ _ (by rw [h1]) (by rw [h1]) hv
      obtain ⟨R, hR⟩ : ∃ R, rs[k]'(by rw [HM.out]; exact hlt) = R := ⟨_, rfl⟩
      simp only [hR] at hY c hep h4
      obtain ⟨P, hP⟩ : ∃ P, pos rs k = P := ⟨_, rfl⟩
      obtain ⟨L, hL⟩ : ∃ L, (enc R).length = L := ⟨_, rfl⟩
      rw [hP] at hY c h4 h2 ⊢
      rw [hL] at c hep h4
      have H4 : Hid (pos rs (k + 1) = P + L) := h4
      rw [h4] at h3
      have hL0 : ((L : Int) == 0) = false := by simp; omega
      have HK : Hid (k + 1 ≤ m ∧ Below w0.heap.size w0 wr) := ⟨hlt, hb⟩
      have hJW : ∀ W2, Below wr.heap.size wr W2 → J ((tgt rs).take k) W2 := fun W2 h => HJ.out _ _ _ hJk h
      clear hrs he ht hS hSr h1 hr h4 hv hR hP hL hb hJk hk hlt
      gi_wp2_with (refine ⟨trivial, ?_⟩; gi_at_call 27; refine (callsIn_wide.2 c).mono ?_; rintro e w1 ⟨rfl, hb1⟩; obtain ⟨fn, tm, asg, bo, hy, hR⟩ := hY w1 (hJW w1 hb1))
      refine hR.mono ?_
      rintro e W3 (⟨rfl, hJ3, hk3⟩ | ⟨rfl, hJx3⟩)
      · gi_wp2
        go_roundw
        case rel => exact ⟨k + 1, HK.out.1, by rw [H4.out]; go_num, hJ3, (HK.out.2.trans (hb1.mono HK.out.2.size)).trans hk3⟩
        case measure => simp [RowKit.intOf]; omega
      · gi_wp2
        refine bodyPost_ret (results_none rfl _ _ _) rfl ?_
        exact ⟨⟨_, rfl⟩, .inr ⟨_, List.take_prefix _ _, hJx3⟩⟩
    · obtain rfl : m = k := by omega
      have hend := fun h => at_end he ht (by rw [HM.out]; exact h)
      rw [HM.out] at hend
      have hall : (tgt rs).take m = tgt rs := List.take_of_length_le (by rw [tgt_len, HM.out]; exact Nat.le_refl _)
      rw [hall] at hJk
      obtain ⟨P, hP⟩ : ∃ P, pos rs m = P := ⟨_, rfl⟩
      rw [hP] at hend ⊢
      by_cases hsz : P < s.size
      · have c := first_bad (s.extract P s.size) wr hSr.tabs 1 (by rw [hend hsz]) (by rw [hend hsz]) (by omega)
        have hJW : ∀ W2, Below wr.heap.size wr W2 → J (tgt rs) W2 := fun W2 h => HJ.out _ _ _ hJk h
        clear hrs he ht hS hSr hend hP hb hJk hk hlt hall
        gi_wp2_with (refine ⟨trivial, ?_⟩; gi_at_call 27; refine (callsIn_wide.2 c).mono ?_; rintro e w1 ⟨rfl, hb1⟩)
        refine ⟨fun _ h => (by cases h), ?_⟩
        gi_wp2
        refine bodyPost_ret (results_none rfl _ _ _) rfl ?_
        exact ⟨⟨_, rfl⟩, .inl ⟨_, rfl, hJW _ hb1⟩⟩
      · clear hrs he ht hS hSr hend hP hk hlt hall
        gi_wp2
        go_end0
        exact ⟨⟨_, rfl⟩, .inl ⟨_, rfl, hJk⟩⟩
end Go.Proofs.YtdnelmbihblakaaDoor
