/- From a row's list of laid variables (buildOwnsRow) to what the walks ask of memory; the world of the witness. -/
import Derived.Test.YtfllomfjhkgaoabGreatDoorCards
import Derived.Test.YtfllomfjhkgaoabGreatDoorTie
import Derived.Test.YtfllomfjhkgaoabGreatDoorSc
import Derived.WalkKit
import Derived.ProofKit
import Derived.OpenShut
import Derived.Lib.LaidU8T
import Derived.Lib.LaidTab
import Derived.PinnedBridge
import Derived.Lay
import Derived.LaidMore
import Derived.SevenTiedAt
import Derived.Stop.Joined
import Derived.Deep.DeepHandedRow
import Derived.SizedLaws
namespace Go.Proofs.YtfllomfjhkgaoabGreatDoor
open Go Go.RowKit Go.Lib Go.Shelf Go.ChangeShapes Go.WideShapes Go.ChangeAt
set_option linter.unusedVariables false

/-- The list that the rows bear. -/
def laidLV : List (String × DataW Unit) := Rows.buildOwnsRow.laid
def ixLV : List Nat := [0, 4, 5, 6, 7, 8, 9, 10]
def textOfV : DataW Unit → List UInt8
  | .iface _ (.ptr (.agg [.lit (.string t)])) => t
  | _ => []
def errLV : List (String × List UInt8) := ((laidLV.drop 1).take 8).map fun x => (x.1, textOfV x.2)
theorem ownV : ownKnob Tryz.prog.godebug = none := by kernel_rfl
theorem starV : "*" ++ "errors.errorString" = "*errors.errorString" := by decide
theorem rowErrV (u : TypeId) (h : Tryz.prog.typeName? 3 u = some "*errors.errorString") : u = 150 :=
  typeName_ptr_named (nm := "errors.errorString") (by rw [starV]; kernel_rfl) (by kernel_rfl) (by decide) u (by rw [starV]; exact h)
theorem laidLV_len : laidLV.length = 10 := by kernel_rfl
theorem laidLV_eq : ∃ x0, laidLV = x0 :: (errLV.map mkErr ++ laidLV.drop 9) := ⟨laidLV[0]'(by rw [laidLV_len]; omega), by kernel_rfl⟩
theorem errLV_len : errLV.length = 8 := by kernel_rfl
theorem errLV_gs : (errLV.map fun x => Tryz.prog.globalNamed x.1) = (ixLV.map gE).map some := by kernel_rfl
theorem u8extraV : U8Extra Tryz.prog Tryz.lays197_ren := ⟨by kernel_rfl, by kernel_rfl, by kernel_rfl, by kernel_rfl, by kernel_rfl, by kernel_rfl, by kernel_rfl⟩
theorem u8typesV : U8Types Tryz.prog Tryz.lays197_ren := { Tryz.lays197 with }

theorem std_of_laidV {W : World} (h : laidMetH Tryz.prog laidLV W) : ∃ a, Std ixLV a W := by
  rw [MakeChecks.laidMetH_plain _ _ _ (by kernel_rfl)] at h
  have hT : Utf8Tabs 2 3 W := by
    have e1 : (laidLV[9]?).map (·.2) = some firstData := by rw [← Pinned.utf8First_eq]; kernel_rfl
    have e2 : (laidLV[0]?).map (·.2) = some acceptData := by kernel_rfl
    have mem : ∀ (i : Nat) (n : String) (d : DataW Unit), (laidLV[i]?).map (·.1) = some n → (laidLV[i]?).map (·.2) = some d → (n, d) ∈ laidLV := fun i n d h1 h2 => by
      cases hx : laidLV[i]? with
      | none => rw [hx] at h1; cases h1
      | some x =>
        rw [hx] at h1 h2
        simp only [Option.map_some, Option.some.injEq] at h1 h2
        subst h1; subst h2
        exact List.mem_of_getElem? hx
    exact utf8Tabs_of_readsT u8typesV u8extraV (laidMet.reads h (mem 9 _ _ (by kernel_rfl) e1)) (laidMet.reads h (mem 0 _ _ (by kernel_rfl) e2))
  obtain ⟨x0, hx⟩ := laidLV_eq
  rw [hx] at h
  obtain ⟨a, ha⟩ := errs_of_laid errLV (ixLV.map gE) Tryz.underlying41 rowErrV Tryz.underlying150 Tryz.underlying167 rfl rfl Tryz.underlying9 (by kernel_rfl) (by kernel_rfl) errLV_gs (by kernel_rfl) h.tail
  exact ⟨_, er_of_errs (by decide) ha, hT⟩

/-- The witness's world: the list is met there. -/
theorem wit_metV (os : Os) (args : Array Value) : laidMetH Tryz.prog laidLV ((World.laidAll Tryz.prog os laidLV).forCall (fun _ _ => 0) ⟨#[], args, []⟩).memory := by
  rw [MakeChecks.laidMetH_plain _ _ _ (by kernel_rfl)]
  exact laidMet_laidAll _ (by kernel_rfl) (by kernel_rfl)
end Go.Proofs.YtfllomfjhkgaoabGreatDoor
