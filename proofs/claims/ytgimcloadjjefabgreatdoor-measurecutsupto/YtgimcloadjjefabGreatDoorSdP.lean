/- From a row's list of laid variables (measureSumsRow) to what the walks ask of memory; the world of the witness. -/
import Derived.Test.YtgimcloadjjefabGreatDoorCards
import Derived.Test.YtgimcloadjjefabGreatDoorTie
import Derived.Test.YtgimcloadjjefabGreatDoorSc
import Derived.WalkKit
import Derived.ProofKit
import Derived.OpenShut
import Derived.Lib.LaidU8T
import Derived.Lib.LaidTab
import Derived.PinnedBridge
import Derived.Lay
import Derived.LaidMore
import Derived.SevenTiedAt
import Derived.Stop.Joined
import Derived.Deep.DeepHandedRow
import Derived.SizedLaws
namespace Go.Proofs.YtgimcloadjjefabGreatDoor
open Go Go.RowKit Go.Lib Go.Shelf Go.ChangeShapes Go.WideShapes Go.ChangeAt
set_option linter.unusedVariables false

/-- The list that the rows bear. -/
def laidLP : List (String × DataW Unit) := Rows.measureSumsRow.laid
def ixLP : List Nat := [0, 4, 5, 6, 7, 8, 9, 10, 11]
def textOfP : DataW Unit → List UInt8
  | .iface _ (.ptr (.agg [.lit (.string t)])) => t
  | _ => []
def errLP : List (String × List UInt8) := ((laidLP.drop 1).take 9).map fun x => (x.1, textOfP x.2)
theorem ownP : ownKnob Tryz.prog.godebug = none := by kernel_rfl
theorem starP : "*" ++ "errors.errorString" = "*errors.errorString" := by decide
theorem rowErrP (u : TypeId) (h : Tryz.prog.typeName? 3 u = some "*errors.errorString") : u = 180 :=
  typeName_ptr_named (nm := "errors.errorString") (by rw [starP]; kernel_rfl) (by kernel_rfl) (by decide) u (by rw [starP]; exact h)
theorem laidLP_len : laidLP.length = 11 := by kernel_rfl
theorem laidLP_eq : ∃ x0, laidLP = x0 :: (errLP.map mkErr ++ laidLP.drop 10) := ⟨laidLP[0]'(by rw [laidLP_len]; omega), by kernel_rfl⟩
theorem errLP_len : errLP.length = 9 := by kernel_rfl
theorem errLP_gs : (errLP.map fun x => Tryz.prog.globalNamed x.1) = (ixLP.map gE).map some := by kernel_rfl
theorem u8extraP : U8Extra Tryz.prog Tryz.lays197_ren := ⟨by kernel_rfl, by kernel_rfl, by kernel_rfl, by kernel_rfl, by kernel_rfl, by kernel_rfl, by kernel_rfl⟩
theorem u8typesP : U8Types Tryz.prog Tryz.lays197_ren := { Tryz.lays197 with }

theorem std_of_laidP {W : World} (h : laidMetH Tryz.prog laidLP W) : ∃ a, Std ixLP a W := by
  rw [MakeChecks.laidMetH_plain _ _ _ (by kernel_rfl)] at h
  have hT : Utf8Tabs 19 20 W := by
    have e1 : (laidLP[10]?).map (·.2) = some firstData := by rw [← Pinned.utf8First_eq]; kernel_rfl
    have e2 : (laidLP[0]?).map (·.2) = some acceptData := by kernel_rfl
    have mem : ∀ (i : Nat) (n : String) (d : DataW Unit), (laidLP[i]?).map (·.1) = some n → (laidLP[i]?).map (·.2) = some d → (n, d) ∈ laidLP := fun i n d h1 h2 => by
      cases hx : laidLP[i]? with
      | none => rw [hx] at h1; cases h1
      | some x =>
        rw [hx] at h1 h2
        simp only [Option.map_some, Option.some.injEq] at h1 h2
        subst h1; subst h2
        exact List.mem_of_getElem? hx
    exact utf8Tabs_of_readsT u8typesP u8extraP (laidMet.reads h (mem 10 _ _ (by kernel_rfl) e1)) (laidMet.reads h (mem 0 _ _ (by kernel_rfl) e2))
  obtain ⟨x0, hx⟩ := laidLP_eq
  rw [hx] at h
  obtain ⟨a, ha⟩ := errs_of_laid errLP (ixLP.map gE) Tryz.underlying31 rowErrP Tryz.underlying180 Tryz.underlying196 rfl rfl Tryz.underlying9 (by kernel_rfl) (by kernel_rfl) errLP_gs (by kernel_rfl) h.tail
  exact ⟨_, er_of_errs (by decide) ha, hT⟩

/-- The witness's world: the list is met there. -/
theorem wit_metP (os : Os) (args : Array Value) : laidMetH Tryz.prog laidLP ((World.laidAll Tryz.prog os laidLP).forCall (fun _ _ => 0) ⟨#[], args, []⟩).memory := by
  rw [MakeChecks.laidMetH_plain _ _ _ (by kernel_rfl)]
  exact laidMet_laidAll _ (by kernel_rfl) (by kernel_rfl)
end Go.Proofs.YtgimcloadjjefabGreatDoor
