/- From a row's list of laid variables (walkPlaysRow) to what the walks ask of memory; the world of the witness. -/
import Derived.Test.YtpmnmlhmeidmeaaGreatDoorCards
import Derived.Test.YtpmnmlhmeidmeaaGreatDoorTie
import Derived.Test.YtpmnmlhmeidmeaaGreatDoorSc
import Derived.WalkKit
import Derived.ProofKit
import Derived.OpenShut
import Derived.Lib.LaidU8T
import Derived.Lib.LaidTab
import Derived.PinnedBridge
import Derived.Lay
import Derived.LaidMore
import Derived.SevenTiedAt
import Derived.Stop.Joined
import Derived.Deep.DeepHandedRow
import Derived.SizedLaws
namespace Go.Proofs.YtpmnmlhmeidmeaaGreatDoor
open Go Go.RowKit Go.Lib Go.Shelf Go.ChangeShapes Go.WideShapes Go.ChangeAt
set_option linter.unusedVariables false

/-- The list that the rows bear. -/
def laidLY : List (String × DataW Unit) := Rows.walkPlaysRow.laid
def ixLY : List Nat := [0, 1, 2, 3, 4, 5, 6, 7, 8, 9, 10, 11, 12, 13, 14, 15, 16, 17, 18]
def textOfY : DataW Unit → List UInt8
  | .iface _ (.ptr (.agg [.lit (.string t)])) => t
  | _ => []
def errLY : List (String × List UInt8) := ((laidLY.drop 1).take 19).map fun x => (x.1, textOfY x.2)
theorem ownY : ownKnob Tryz.prog.godebug = none := by kernel_rfl
theorem starY : "*" ++ "errors.errorString" = "*errors.errorString" := by decide
theorem rowErrY (u : TypeId) (h : Tryz.prog.typeName? 3 u = some "*errors.errorString") : u = 213 :=
  typeName_ptr_named (nm := "errors.errorString") (by rw [starY]; kernel_rfl) (by kernel_rfl) (by decide) u (by rw [starY]; exact h)
theorem laidLY_len : laidLY.length = 21 := by kernel_rfl
theorem laidLY_eq : ∃ x0, laidLY = x0 :: (errLY.map mkErr ++ laidLY.drop 20) := ⟨laidLY[0]'(by rw [laidLY_len]; omega), by kernel_rfl⟩
theorem errLY_len : errLY.length = 19 := by kernel_rfl
theorem errLY_gs : (errLY.map fun x => Tryz.prog.globalNamed x.1) = (ixLY.map gE).map some := by kernel_rfl
theorem u8extraY : U8Extra Tryz.prog Tryz.lays197_ren := ⟨by kernel_rfl, by kernel_rfl, by kernel_rfl, by kernel_rfl, by kernel_rfl, by kernel_rfl, by kernel_rfl⟩
theorem u8typesY : U8Types Tryz.prog Tryz.lays197_ren := { Tryz.lays197 with }

theorem std_of_laidY {W : World} (h : laidMetH Tryz.prog laidLY W) : ∃ a, Std ixLY a W := by
  rw [MakeChecks.laidMetH_plain _ _ _ (by kernel_rfl)] at h
  have hT : Utf8Tabs 19 20 W := by
    have e1 : (laidLY[20]?).map (·.2) = some firstData := by rw [← Pinned.utf8First_eq]; kernel_rfl
    have e2 : (laidLY[0]?).map (·.2) = some acceptData := by kernel_rfl
    have mem : ∀ (i : Nat) (n : String) (d : DataW Unit), (laidLY[i]?).map (·.1) = some n → (laidLY[i]?).map (·.2) = some d → (n, d) ∈ laidLY := fun i n d h1 h2 => by
      cases hx : laidLY[i]? with
      | none => rw [hx] at h1; cases h1
      | some x =>
        rw [hx] at h1 h2
        simp only [Option.map_some, Option.some.injEq] at h1 h2
        subst h1; subst h2
        exact List.mem_of_getElem? hx
    exact utf8Tabs_of_readsT u8typesY u8extraY (laidMet.reads h (mem 20 _ _ (by kernel_rfl) e1)) (laidMet.reads h (mem 0 _ _ (by kernel_rfl) e2))
  obtain ⟨x0, hx⟩ := laidLY_eq
  rw [hx] at h
  obtain ⟨a, ha⟩ := errs_of_laid errLY (ixLY.map gE) Tryz.underlying40 rowErrY Tryz.underlying213 Tryz.underlying229 rfl rfl Tryz.underlying9 (by kernel_rfl) (by kernel_rfl) errLY_gs (by kernel_rfl) h.tail
  exact ⟨_, er_of_errs (by decide) ha, hT⟩

/-- The witness's world: the list is met there. -/
theorem wit_metY (os : Os) (args : Array Value) : laidMetH Tryz.prog laidLY ((World.laidAll Tryz.prog os laidLY).forCall (fun _ _ => 0) ⟨#[], args, []⟩).memory := by
  rw [MakeChecks.laidMetH_plain _ _ _ (by kernel_rfl)]
  exact laidMet_laidAll _ (by kernel_rfl) (by kernel_rfl)
end Go.Proofs.YtpmnmlhmeidmeaaGreatDoor
