/- The sentinels that a row lists: each variable's cell, no two pointers alike; how they compare. I: which of the nineteen (from 0 on, in DOC.md's order). -/
import Derived.Test.YtplnojapnaaakaaGreatDoorProg
import Derived.Test.YtplnojapnaaakaaGreatDoorPGen
import Derived.WalkKit
import Derived.Handy
import Derived.Deep.QuietTactic
import Derived.BigQuiet
import Derived.Laws.Tables
import Derived.Deep.WholeRow
namespace Go.Proofs.YtplnojapnaaakaaGreatDoor
open Go Go.RowKit
set_option linter.unusedVariables false
abbrev errV (a : Nat → Addr) (i : Nat) : Value := .iface 241 (.pointer (some (a i)))
def gE (i : Nat) : Nat := [2, 3, 4, 5, 6, 7, 8, 9, 10, 11, 12, 1, 13, 14, 15, 16, 17, 0, 18].getD i 0

structure Er (I : List Nat) (a : Nat → Addr) (w : World) : Prop where
  cell : ∀ i, i ∈ I → w.cell? ⟨gE i, 0, none⟩ = some (errV a i)
  heap : ∀ i, i ∈ I → ∃ c ty, w.heap[(a i).block]? = some (.cells c ty (0, 0))
  inj : ∀ i j, i ∈ I → j ∈ I → a i = a j → i = j

theorem Er.below {I : List Nat} {a : Nat → Addr} {w w' : World} (h : Er I a w) (hb : Below w.heap.size w w') : Er I a w' :=
  ⟨fun i hi => by rw [hb.cell (lt_of_cell (h.cell i hi))]; exact h.cell i hi,
   fun i hi => by
    obtain ⟨c, ty, hc⟩ := h.heap i hi
    rw [hb.block _ (by
      rcases Nat.lt_or_ge (a i).block w.heap.size with h' | h'
      · exact h'
      · rw [Array.getElem?_eq_none h'] at hc; cases hc)]
    exact ⟨c, ty, hc⟩,
   h.inj⟩

theorem er_of_errs {I : List Nat} {a : Nat → Addr} {w : World} {t : Nat → List UInt8} (hnd : I.Nodup) (h : Errs I.length 241 (fun j => (I.map gE).getD j 0) t a w) : Er I (fun i => a (I.idxOf i)) w := by
  have key : ∀ i, i ∈ I → I.idxOf i < I.length ∧ (I.map gE).getD (I.idxOf i) 0 = gE i := fun i hi => by
    have hl := List.idxOf_lt_length_of_mem hi
    refine ⟨hl, ?_⟩
    rw [List.getD, List.getElem?_map, List.getElem?_eq_getElem hl]
    simp
  refine ⟨fun i hi => ?_, fun i hi => h.heap _ (key i hi).1, fun i j hi hj e => ?_⟩
  · have := h.cell _ (key i hi).1
    rwa [(key i hi).2] at this
  · have e2 := h.inj _ _ (key i hi).1 (key j hj).1 e
    have e3 := congrArg (fun k => I[k]?) e2
    simpa [List.getElem?_eq_getElem (key i hi).1, List.getElem?_eq_getElem (key j hj).1] using e3

theorem compErr : ∃ i j, Tryz.prog.info? 241 = some i ∧ i.comparable = true ∧ Tryz.prog.info? 257 = some j ∧ j.size ≠ 0 := by
  obtain ⟨i, hi, hc⟩ := Option.map_eq_some_iff.1 (show (Tryz.prog.info? 241).map (·.comparable) = some true by kernel_rfl)
  obtain ⟨j, hj, hs⟩ := Option.map_eq_some_iff.1 (show (Tryz.prog.info? 257).map (·.size) = some 1 by kernel_rfl)
  exact ⟨i, j, hi, hc, hj, by omega⟩

theorem eql_nil (a : Nat → Addr) (n : Nat) (w : World) : (binOp .eql 40 (errV a n) .nilIface).run Tryz.prog w = .ok (.bool false) w := by
  have h : ∀ d : Nat, (Op.equalIn (d + 1) 40 (errV a n) .nilIface).run Tryz.prog w = .ok false w := fun d => by simp [errV, Op.equalIn, run_underlying Tryz.underlying40]
  simp only [binOp]
  simp [Op.equal, Op.maxDepth, h 9999]

theorem eql_same (a : Nat → Addr) (n : Nat) (w : World) : (binOp .eql 40 (errV a n) (errV a n)).run Tryz.prog w = .ok (.bool true) w := by
  obtain ⟨i, j, hi, hc, hj, _⟩ := compErr
  exact run_eql_iface_ptr_same w (a n) Tryz.underlying40 Tryz.underlying241 hi hc hj

theorem eql_other {I : List Nat} {a : Nat → Addr} {w : World} (h : Er I a w) (n k : Nat) (hn : n ∈ I) (hk : k ∈ I) (hne : n ≠ k) : (binOp .eql 40 (errV a n) (errV a k)).run Tryz.prog w = .ok (.bool false) w := by
  obtain ⟨i, j, hi, hc, hj, hs⟩ := compErr
  obtain ⟨c1, t1, h1⟩ := h.heap n hn
  obtain ⟨c2, t2, h2⟩ := h.heap k hk
  exact run_eql_iface_ptr_other w Tryz.underlying40 Tryz.underlying241 hi hc hj hs (fun e => hne (h.inj n k hn hk e)) h1 h2

/-- An error by its number: 0 is nil. -/
def errOf (a : Nat → Addr) (e : Nat) : Value := if e = 0 then .nilIface else errV a (e - 1)
theorem errOf_zero (a : Nat → Addr) : errOf a 0 = .nilIface := rfl
theorem errOf_succ (a : Nat → Addr) (e : Nat) : errOf a (e + 1) = errV a e := rfl

theorem from_below {f : FuncId} {args : Array Value} {X : Ending → World → Prop} {w W : World} (hb : Below w.heap.size w W) (c : Calls Tryz.prog f args W fun e w' => X e w' ∧ Below W.heap.size W w') :
    Calls Tryz.prog f args W fun e w' => X e w' ∧ Below w.heap.size w w' :=
  c.mono fun e w' ⟨h, k⟩ => ⟨h, hb.trans (k.mono hb.size)⟩
end Go.Proofs.YtplnojapnaaakaaGreatDoor
