/- From a row's list of laid variables (buildOfRow) to what the walks ask of memory; the world of the witness. -/
import Derived.Test.YtfllomfjhkgaoaaGreatDoorCards
import Derived.Test.YtfllomfjhkgaoaaGreatDoorTie
import Derived.Test.YtfllomfjhkgaoaaGreatDoorSc
import Derived.WalkKit
import Derived.ProofKit
import Derived.OpenShut
import Derived.Lib.LaidU8T
import Derived.Lib.LaidTab
import Derived.PinnedBridge
import Derived.Lay
import Derived.LaidMore
import Derived.SevenTiedAt
import Derived.Stop.Joined
import Derived.Deep.DeepHandedRow
import Derived.SizedLaws
namespace Go.Proofs.YtfllomfjhkgaoaaGreatDoor
open Go Go.RowKit Go.Lib Go.Shelf Go.ChangeShapes Go.WideShapes Go.ChangeAt
set_option linter.unusedVariables false

/-- The list that the rows bear. -/
def laidLU : List (String × DataW Unit) := Rows.buildOfRow.laid
def ixLU : List Nat := [0, 1, 2, 3, 4, 5, 6, 7, 8, 9, 10, 11, 12, 13, 14, 15, 16, 17, 18]
def textOfU : DataW Unit → List UInt8
  | .iface _ (.ptr (.agg [.lit (.string t)])) => t
  | _ => []
def errLU : List (String × List UInt8) := ((laidLU.drop 1).take 19).map fun x => (x.1, textOfU x.2)
theorem ownU : ownKnob Tryz.prog.godebug = none := by kernel_rfl
theorem starU : "*" ++ "errors.errorString" = "*errors.errorString" := by decide
theorem rowErrU (u : TypeId) (h : Tryz.prog.typeName? 3 u = some "*errors.errorString") : u = 189 :=
  typeName_ptr_named (nm := "errors.errorString") (by rw [starU]; kernel_rfl) (by kernel_rfl) (by decide) u (by rw [starU]; exact h)
theorem laidLU_len : laidLU.length = 21 := by kernel_rfl
theorem laidLU_eq : ∃ x0, laidLU = x0 :: (errLU.map mkErr ++ laidLU.drop 20) := ⟨laidLU[0]'(by rw [laidLU_len]; omega), by kernel_rfl⟩
theorem errLU_len : errLU.length = 19 := by kernel_rfl
theorem errLU_gs : (errLU.map fun x => Tryz.prog.globalNamed x.1) = (ixLU.map gE).map some := by kernel_rfl
theorem u8extraU : U8Extra Tryz.prog Tryz.lays197_ren := ⟨by kernel_rfl, by kernel_rfl, by kernel_rfl, by kernel_rfl, by kernel_rfl, by kernel_rfl, by kernel_rfl⟩
theorem u8typesU : U8Types Tryz.prog Tryz.lays197_ren := { Tryz.lays197 with }

theorem std_of_laidU {W : World} (h : laidMetH Tryz.prog laidLU W) : ∃ a, Std ixLU a W := by
  rw [MakeChecks.laidMetH_plain _ _ _ (by kernel_rfl)] at h
  have hT : Utf8Tabs 19 20 W := by
    have e1 : (laidLU[20]?).map (·.2) = some firstData := by rw [← Pinned.utf8First_eq]; kernel_rfl
    have e2 : (laidLU[0]?).map (·.2) = some acceptData := by kernel_rfl
    have mem : ∀ (i : Nat) (n : String) (d : DataW Unit), (laidLU[i]?).map (·.1) = some n → (laidLU[i]?).map (·.2) = some d → (n, d) ∈ laidLU := fun i n d h1 h2 => by
      cases hx : laidLU[i]? with
      | none => rw [hx] at h1; cases h1
      | some x =>
        rw [hx] at h1 h2
        simp only [Option.map_some, Option.some.injEq] at h1 h2
        subst h1; subst h2
        exact List.mem_of_getElem? hx
    exact utf8Tabs_of_readsT u8typesU u8extraU (laidMet.reads h (mem 20 _ _ (by kernel_rfl) e1)) (laidMet.reads h (mem 0 _ _ (by kernel_rfl) e2))
  obtain ⟨x0, hx⟩ := laidLU_eq
  rw [hx] at h
  obtain ⟨a, ha⟩ := errs_of_laid errLU (ixLU.map gE) Tryz.underlying28 rowErrU Tryz.underlying189 Tryz.underlying205 rfl rfl Tryz.underlying9 (by kernel_rfl) (by kernel_rfl) errLU_gs (by kernel_rfl) h.tail
  exact ⟨_, er_of_errs (by decide) ha, hT⟩

/-- The witness's world: the list is met there. -/
theorem wit_metU (os : Os) (args : Array Value) : laidMetH Tryz.prog laidLU ((World.laidAll Tryz.prog os laidLU).forCall (fun _ _ => 0) ⟨#[], args, []⟩).memory := by
  rw [MakeChecks.laidMetH_plain _ _ _ (by kernel_rfl)]
  exact laidMet_laidAll _ (by kernel_rfl) (by kernel_rfl)
end Go.Proofs.YtfllomfjhkgaoaaGreatDoor
