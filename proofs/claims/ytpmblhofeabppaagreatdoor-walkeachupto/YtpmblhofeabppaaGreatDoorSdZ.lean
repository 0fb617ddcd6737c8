/- From a row's list of laid variables (walkEachRow) to what the walks ask of memory; the world of the witness. -/
import Derived.Test.YtpmblhofeabppaaGreatDoorCards
import Derived.Test.YtpmblhofeabppaaGreatDoorTie
import Derived.Test.YtpmblhofeabppaaGreatDoorSc
import Derived.WalkKit
import Derived.ProofKit
import Derived.OpenShut
import Derived.Lib.LaidU8T
import Derived.Lib.LaidTab
import Derived.PinnedBridge
import Derived.Lay
import Derived.LaidMore
import Derived.SevenTiedAt
import Derived.Stop.Joined
import Derived.Deep.DeepHandedRow
import Derived.SizedLaws
namespace Go.Proofs.YtpmblhofeabppaaGreatDoor
open Go Go.RowKit Go.Lib Go.Shelf Go.ChangeShapes Go.WideShapes Go.ChangeAt
set_option linter.unusedVariables false

/-- The list that the rows bear. -/
def laidLZ : List (String × DataW Unit) := Rows.walkEachRow.laid
def ixLZ : List Nat := [0, 4, 5, 6, 7, 8, 9, 10, 11]
def textOfZ : DataW Unit → List UInt8
  | .iface _ (.ptr (.agg [.lit (.string t)])) => t
  | _ => []
def errLZ : List (String × List UInt8) := ((laidLZ.drop 1).take 9).map fun x => (x.1, textOfZ x.2)
theorem ownZ : ownKnob Tryz.prog.godebug = none := by kernel_rfl
theorem starZ : "*" ++ "errors.errorString" = "*errors.errorString" := by decide
theorem rowErrZ (u : TypeId) (h : Tryz.prog.typeName? 3 u = some "*errors.errorString") : u = 172 :=
  typeName_ptr_named (nm := "errors.errorString") (by rw [starZ]; kernel_rfl) (by kernel_rfl) (by decide) u (by rw [starZ]; exact h)
theorem laidLZ_len : laidLZ.length = 11 := by kernel_rfl
theorem laidLZ_eq : ∃ x0, laidLZ = x0 :: (errLZ.map mkErr ++ laidLZ.drop 10) := ⟨laidLZ[0]'(by rw [laidLZ_len]; omega), by kernel_rfl⟩
theorem errLZ_len : errLZ.length = 9 := by kernel_rfl
theorem errLZ_gs : (errLZ.map fun x => Tryz.prog.globalNamed x.1) = (ixLZ.map gE).map some := by kernel_rfl
theorem u8extraZ : U8Extra Tryz.prog Tryz.lays197_ren := ⟨by kernel_rfl, by kernel_rfl, by kernel_rfl, by kernel_rfl, by kernel_rfl, by kernel_rfl, by kernel_rfl⟩
theorem u8typesZ : U8Types Tryz.prog Tryz.lays197_ren := { Tryz.lays197 with }

theorem std_of_laidZ {W : World} (h : laidMetH Tryz.prog laidLZ W) : ∃ a, Std ixLZ a W := by
  rw [MakeChecks.laidMetH_plain _ _ _ (by kernel_rfl)] at h
  have hT : Utf8Tabs 3 4 W := by
    have e1 : (laidLZ[10]?).map (·.2) = some firstData := by rw [← Pinned.utf8First_eq]; kernel_rfl
    have e2 : (laidLZ[0]?).map (·.2) = some acceptData := by kernel_rfl
    have mem : ∀ (i : Nat) (n : String) (d : DataW Unit), (laidLZ[i]?).map (·.1) = some n → (laidLZ[i]?).map (·.2) = some d → (n, d) ∈ laidLZ := fun i n d h1 h2 => by
      cases hx : laidLZ[i]? with
      | none => rw [hx] at h1; cases h1
      | some x =>
        rw [hx] at h1 h2
        simp only [Option.map_some, Option.some.injEq] at h1 h2
        subst h1; subst h2
        exact List.mem_of_getElem? hx
    exact utf8Tabs_of_readsT u8typesZ u8extraZ (laidMet.reads h (mem 10 _ _ (by kernel_rfl) e1)) (laidMet.reads h (mem 0 _ _ (by kernel_rfl) e2))
  obtain ⟨x0, hx⟩ := laidLZ_eq
  rw [hx] at h
  obtain ⟨a, ha⟩ := errs_of_laid errLZ (ixLZ.map gE) Tryz.underlying48 rowErrZ Tryz.underlying172 Tryz.underlying188 rfl rfl Tryz.underlying9 (by kernel_rfl) (by kernel_rfl) errLZ_gs (by kernel_rfl) h.tail
  exact ⟨_, er_of_errs (by decide) ha, hT⟩

/-- The witness's world: the list is met there. -/
theorem wit_metZ (os : Os) (args : Array Value) : laidMetH Tryz.prog laidLZ ((World.laidAll Tryz.prog os laidLZ).forCall (fun _ _ => 0) ⟨#[], args, []⟩).memory := by
  rw [MakeChecks.laidMetH_plain _ _ _ (by kernel_rfl)]
  exact laidMet_laidAll _ (by kernel_rfl) (by kernel_rfl)
end Go.Proofs.YtpmblhofeabppaaGreatDoor
