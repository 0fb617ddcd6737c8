/- A Plain among the arguments: what its reading gives the walk, and its reading behind it. -/
import Derived.WalkKit
import Derived.ProofKit
import Derived.OpenShut
import Derived.SizedLaws
import Derived.Test.YthfpmhnnjjikcaaGreatDoorSc
import Derived.Test.YthfpmhnnjjikcaaGreatDoorVl
import Derived.Lib.SmallJoins
namespace Go.Proofs.YthfpmhnnjjikcaaGreatDoor
open Go Go.RowKit Go.Lib Go.ChangeShapes Go.WideShapes Go.ChangeAt Go.Joins
set_option linter.unusedVariables false

abbrev plD {H : Type} (k n : Int) (t : ByteArray) : DataW H := .agg [.lit (.int .i64 k), .lit (.int .i64 n), .lit (.string t.data.toList)]
def inr (z : Int) : Prop := -9223372036854775808 ≤ z ∧ z ≤ 9223372036854775807

theorem cellsPlain : Tryz.prog.cellsOf 30 = 3 := by kernel_rfl
set_option maxRecDepth 100000 in
theorem open_plain {H : Type} {enc : TypeId × Value → H} {W : World} {base : Nat} {v : Value} {d : DataW H} {p : List MemPlace} {ts : List TypeId} {ds : List (DataW H)} {j : Nat}
    (hok : Value.okWide Tryz.prog W .any base 30 v) (h : DataW.Trod enc Tryz.prog W 0 (fun _ => true) true 30 v d p)
    (hsz : (DataW.weightsEach Tryz.prog ts ds).all (· ≤ reachBytes) = true) (ht : ts[j]? = some 30) (hd : ds[j]? = some d) :
    ∃ (k n : Int) (t : ByteArray), v = pl k n t ∧ d = plD k n t ∧ p = [] ∧ inr k ∧ inr n ∧ t.size ≤ 140737488351232 := by
  obtain ⟨c0, c1, c2, y0, y1, y2, m, rfl, rfl, rfl, hy0, hy1, hy2⟩ := open_agg3 Tryz.underlying30 (by kernel_rfl) cellsPlain hok h
  obtain ⟨k, e0, rfl, wk⟩ := DataW.trod_int Tryz.underlying3 hy0
  obtain ⟨n, e1, rfl, wn⟩ := DataW.trod_int Tryz.underlying2 hy1
  obtain ⟨t, e2, rfl, wt⟩ := DataW.trod_string Tryz.underlying9 hy2
  simp at e0 e1 e2
  subst e0 e1 e2
  refine ⟨k, n, t, rfl, rfl, rfl, ?_, ?_, ?_⟩
  · simpa [inr, Lit.wf, IntKind.min, IntKind.max, IntKind.signed, IntKind.bits] using wk
  · simpa [inr, Lit.wf, IntKind.min, IntKind.max, IntKind.signed, IntKind.bits] using wn
  · have := List.all_eq_true.1 hsz t.data.toList.length (DataW.weights_mem_each ht hd _ (by simp [DataW.weights, Tryz.underlying30, DataW.weightsEach]))
    rw [size_toList] at this
    exact of_decide_eq_true this

theorem shut_plain {H : Type} {enc : TypeId × Value → H} {W : World} {sp : Nat → Bool} {held : Bool} {k n : Int} {t : ByteArray} (hk : inr k) (hn : inr n) (ht : t.size ≤ 140737488351232) :
    DataW.Trod enc Tryz.prog W 0 sp held 30 (pl k n t) (plD k n t) [] := by
  unfold inr at hk hn
  have wk : Lit.wf (.int .i64 k) = true := by simpa [Lit.wf, IntKind.min, IntKind.max, IntKind.signed, IntKind.bits] using hk
  have wn : Lit.wf (.int .i64 n) = true := by simpa [Lit.wf, IntKind.min, IntKind.max, IntKind.signed, IntKind.bits] using hn
  exact shut_agg3 (y0 := (.lit (.int .i64 k), [])) (y1 := (.lit (.int .i64 n), [])) (y2 := (.lit (.string t.data.toList), [])) Tryz.underlying30 (by kernel_rfl) cellsPlain
    ⟨1, by simp [DataW.trod, Tryz.underlying3, wk]⟩ ⟨1, by simp [DataW.trod, Tryz.underlying2, wn]⟩ ⟨1, by simp [DataW.trod, Tryz.underlying9]; unfold maxLen; omega⟩
end Go.Proofs.YthfpmhnnjjikcaaGreatDoor
