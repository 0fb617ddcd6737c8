/- From a row's list of laid variables (attrsJoinsRow) to what the walks ask of memory; the world of the witness. -/
import Derived.Test.YtbbkbfcgjljmkaaDoorCards
import Derived.Test.YtbbkbfcgjljmkaaDoorTie
import Derived.Test.YtbbkbfcgjljmkaaDoorSc
import Derived.WalkKit
import Derived.ProofKit
import Derived.OpenShut
import Derived.Lib.LaidU8T
import Derived.Lib.LaidTab
import Derived.PinnedBridge
import Derived.Lay
import Derived.LaidMore
import Derived.SevenTiedAt
import Derived.Stop.Joined
import Derived.Deep.DeepHandedRow
import Derived.SizedLaws
namespace Go.Proofs.YtbbkbfcgjljmkaaDoor
open Go Go.RowKit Go.Lib Go.Shelf Go.ChangeShapes Go.WideShapes Go.ChangeAt
set_option linter.unusedVariables false

/-- The list that the rows bear. -/
def laidLJ : List (String × DataW Unit) := Rows.attrsJoinsRow.laid
def ixLJ : List Nat := [0, 1, 2, 3, 4, 5, 6, 7, 8, 9, 10, 11, 12, 13, 14, 15, 16, 17, 18]
def textOfJ : DataW Unit → List UInt8
  | .iface _ (.ptr (.agg [.lit (.string t)])) => t
  | _ => []
def errLJ : List (String × List UInt8) := ((laidLJ.drop 1).take 19).map fun x => (x.1, textOfJ x.2)
theorem ownJ : ownKnob Tryd.prog.godebug = none := by kernel_rfl
theorem starJ : "*" ++ "errors.errorString" = "*errors.errorString" := by decide
theorem rowErrJ (u : TypeId) (h : Tryd.prog.typeName? 3 u = some "*errors.errorString") : u = 123 :=
  typeName_ptr_named (nm := "errors.errorString") (by rw [starJ]; kernel_rfl) (by kernel_rfl) (by decide) u (by rw [starJ]; exact h)
theorem laidLJ_len : laidLJ.length = 21 := by kernel_rfl
theorem laidLJ_eq : ∃ x0, laidLJ = x0 :: (errLJ.map mkErr ++ laidLJ.drop 20) := ⟨laidLJ[0]'(by rw [laidLJ_len]; omega), by kernel_rfl⟩
theorem errLJ_len : errLJ.length = 19 := by kernel_rfl
theorem errLJ_gs : (errLJ.map fun x => Tryd.prog.globalNamed x.1) = (ixLJ.map gE).map some := by kernel_rfl
theorem u8extraJ : U8Extra Tryd.prog Tryd.lays197_ren := ⟨by kernel_rfl, by kernel_rfl, by kernel_rfl, by kernel_rfl, by kernel_rfl, by kernel_rfl, by kernel_rfl⟩
theorem u8typesJ : U8Types Tryd.prog Tryd.lays197_ren := { Tryd.lays197 with }

theorem std_of_laidJ {W : World} (h : laidMetH Tryd.prog laidLJ W) : ∃ a, Std ixLJ a W := by
  rw [MakeChecks.laidMetH_plain _ _ _ (by kernel_rfl)] at h
  have hT : Utf8Tabs 19 20 W := by
    have e1 : (laidLJ[20]?).map (·.2) = some firstData := by rw [← Pinned.utf8First_eq]; kernel_rfl
    have e2 : (laidLJ[0]?).map (·.2) = some acceptData := by kernel_rfl
    have mem : ∀ (i : Nat) (n : String) (d : DataW Unit), (laidLJ[i]?).map (·.1) = some n → (laidLJ[i]?).map (·.2) = some d → (n, d) ∈ laidLJ := fun i n d h1 h2 => by
      cases hx : laidLJ[i]? with
      | none => rw [hx] at h1; cases h1
      | some x =>
        rw [hx] at h1 h2
        simp only [Option.map_some, Option.some.injEq] at h1 h2
        subst h1; subst h2
        exact List.mem_of_getElem? hx
    exact utf8Tabs_of_readsT u8typesJ u8extraJ (laidMet.reads h (mem 20 _ _ (by kernel_rfl) e1)) (laidMet.reads h (mem 0 _ _ (by kernel_rfl) e2))
  obtain ⟨x0, hx⟩ := laidLJ_eq
  rw [hx] at h
  obtain ⟨a, ha⟩ := errs_of_laid errLJ (ixLJ.map gE) Tryd.underlying27 rowErrJ Tryd.underlying123 Tryd.underlying141 rfl rfl Tryd.underlying9 (by kernel_rfl) (by kernel_rfl) errLJ_gs (by kernel_rfl) h.tail
  exact ⟨_, er_of_errs (by decide) ha, hT⟩

/-- The witness's world: the list is met there. -/
theorem wit_metJ (os : Os) (args : Array Value) : laidMetH Tryd.prog laidLJ ((World.laidAll Tryd.prog os laidLJ).forCall (fun _ _ => 0) ⟨#[], args, []⟩).memory := by
  rw [MakeChecks.laidMetH_plain _ _ _ (by kernel_rfl)]
  exact laidMet_laidAll _ (by kernel_rfl) (by kernel_rfl)
end Go.Proofs.YtbbkbfcgjljmkaaDoor
