/- What the function that attrs.Each answers hands over, for whatever loop body. -/
import Derived.RangeFuncNested
import Derived.RangeFuncBound
import Derived.RangeFuncCalls
import Derived.RangeFuncLeaves
import Derived.Shelf.Abstract
import Derived.Shelf.RegionOpen
import Derived.WalkKit
import Derived.OwnWalkIn
import Derived.TacticsInMore
import Derived.LoopNIn
import Derived.LoopIn
import Derived.Test.YtigmhbgdnmkooaaDoorTl
namespace Go.Proofs.YtigmhbgdnmkooaaDoor
open Go Go.RowKit Go.Lib Go.Shelf
set_option linter.unusedVariables false
attribute [local go_sem] Oper.semAt_some

abbrev eencA (q : A2) : Array Value := #[.string q.1, vO q]
theorem grown_of_below {w w' : World} (h : Below w.heap.size w w') : w.grownBy w' none :=
  ⟨h.os, h.tape, h.output, h.size, fun k hk _ => h.block k hk⟩
theorem others_of_below {w w' : World} (h : Below w.heap.size w w') : KeepsOthers w w' :=
  ⟨h.size, fun k o hk _ => (h.block k (Array.getElem?_eq_some_iff.1 hk).1).trans hk⟩
theorem take_snoc {L : List A2} {k : Nat} {q : A2} (h : L[k]? = some q) : L.take (k + 1) = L.take k ++ [q] := by rw [List.take_add_one, h]; rfl

set_option maxHeartbeats 2000000 in
set_option maxRecDepth 100000 in
theorem eachA_stops (L : List A2) (w0 : World) (x B : Nat) (hT : TellAt w0 x B L) (hl : L.length ≤ 1048576) (n : Nat) (hn : 1 ≤ n) (w : World) (hw : Below w0.heap.size w0 w) :
    SeqStopsK Fence.wide n Tryd.prog 48 #[.pointer (some ⟨x, 0, none⟩)] eencA (Below w0.heap.size) (fun xs => xs = L) (fun pre => pre <+: L) L.length w := fun l J Jx W hW hJ hJx hY h0 => by
  obtain ⟨v, hx, own⟩ := hT
  obtain ⟨p, c, rfl⟩ := own_slice own
  have hBW : ∀ W', Below w0.heap.size w0 W' → W'.cell? ⟨x, 0, none⟩ = some (.slice p L.length c) := fun W' h => by
    rw [h.cell (lt_of_cell hx)]; exact hx
  have hw0 : Below w0.heap.size w0 W := hw.trans (hW.mono hw.size)
  have HC : Hid (∀ k q, L[k]? = some q → ∀ W', Below w0.heap.size w0 W' → ∃ g, p = some ⟨g, 0, none⟩ ∧ W'.cell? ⟨g, k * 2, none⟩ = some (.string q.1) ∧ W'.cell? ⟨g, k * 2 + 1, none⟩ = some (vO q)) := fun k q hq W' hW' => by
    have o2 := owns_below own hW'
    rcases o2.2 with ⟨h1, h2⟩ | ⟨g, cap, cur, h1, _⟩
    · have := (List.getElem?_eq_some_iff.1 hq).1; omega
    · simp only [Value.slice.injEq] at h1
      obtain ⟨rfl, _, rfl⟩ := h1
      have hc := o2.cells (g := g) rfl
      obtain ⟨k0, k1⟩ := cellsT_get L k q hq
      have e0 := hc _ _ k0
      have e1 := hc _ _ k1
      rw [Addr.add_lit, Nat.zero_add] at e0 e1
      exact ⟨g, rfl, e0, e1⟩
  have HY : Hid (∀ k q, L[k]? = some q → ∀ W1, J (L.take k) W1 → YieldAt Fence.wide (n - 1) Tryd.prog l #[.string q.1, vO q] W1 fun e W' =>
      (e = .returned (.bool true) ∧ J (L.take (k + 1)) W' ∧ Below w0.heap.size W1 W') ∨ (e = .returned (.bool false) ∧ Jx (L.take (k + 1)) W')) := fun k q hq W1 hJ1 => by
    rw [take_snoc hq]
    exact hY _ q W1 hJ1 (by rw [List.length_take]; have := (List.getElem?_eq_some_iff.1 hq).1; omega)
  have HJ : Hid (∀ p W1 W2, J p W1 → Below W1.heap.size W1 W2 → J p W2) := fun p W1 W2 h1 h2 => hJ p W1 W2 none h1 (grown_of_below h2) (fun r e => by cases e)
  obtain ⟨m, hm⟩ : ∃ m, L.length = m := ⟨_, rfl⟩
  have HM : Hid (L.length = m) := hm
  rw [hm] at hBW hl
  clear hY hJ hJx hx own hw hW hm
  refine callsIn_of_wp Tryd.func48 rfl trivial ?_ rfl
  simp only [Tryd.ntmps48, List.size_toArray, List.length_cons, List.length_nil, Nat.reduceAdd, Nat.reduceSub, Array.replicate_succ, Array.replicate_zero, List.push_toArray, List.append_toArray, List.nil_append, List.cons_append]
  have hcs := hBW W hw0
  gi_wp2
  gi_loopw [4, 7] (fun _ i wr => ∃ k : Nat, k ≤ m ∧ i = .int .i64 (k : Nat) ∧ J (L.take k) wr ∧ Below w0.heap.size w0 wr) (fun _ i _ => m - (RowKit.intOf i).toNat)
  case atStart => exact ⟨0, Nat.zero_le _, rfl, h0, hw0⟩
  case round =>
    clear h0 hw0 hcs
    obtain ⟨k, hk, rfl, hJk, hb⟩ := hrel
    by_cases hlt : k < m
    · have hltI : (k : Int) < (m : Int) := by omega
      obtain ⟨q, hq⟩ : ∃ q, L[k]? = some q := ⟨_, List.getElem?_eq_getElem (by rw [HM.out]; exact hlt)⟩
      obtain ⟨g, rfl, e0, e1⟩ := HC.out k q hq wr hb
      have hY := HY.out k q hq
      obtain ⟨vt, vx, hV⟩ := vO_if q
      rw [hV] at e1 hY
      obtain ⟨qk, qr⟩ := q
      simp only at e0 hY
      have bA := (Below.refl wr.heap.size wr).alloc (Nat.le_refl _) (.cells #[.string qk, .iface vt vx] 84)
      have hJA := HJ.out _ _ _ hJk bA
      have HK : Hid (k + 1 ≤ m ∧ Below w0.heap.size w0 (wr.alloc (.cells #[.string qk, .iface vt vx] 84))) := ⟨hlt, hb.trans (bA.mono hb.size)⟩
      obtain ⟨fn, tm, asg, bo, hy, hR⟩ := hY _ hJA
      clear hY hJk hb bA hJA hV hq hk hlt
      gi_wp2
      refine hR.mono ?_
      rintro e W3 (⟨rfl, hJ3, hk3⟩ | ⟨rfl, hJx3⟩)
      · gi_wp2
        go_roundw
        case rel => exact ⟨k + 1, HK.out.1, by go_num, hJ3, HK.out.2.trans hk3⟩
        case measure => simp [RowKit.intOf]; omega
      · gi_wp2
        refine bodyPost_ret (results_none rfl _ _ _) rfl ?_
        exact ⟨⟨_, rfl⟩, .inr ⟨_, List.take_prefix _ _, hJx3⟩⟩
    · have hltI : ¬ (k : Int) < (m : Int) := by omega
      have hall : L.take k = L := List.take_of_length_le (by rw [HM.out]; omega)
      rw [hall] at hJk
      clear hall
      gi_wp2
      go_end0
      exact ⟨⟨_, rfl⟩, .inl hJk⟩
end Go.Proofs.YtigmhbgdnmkooaaDoor
