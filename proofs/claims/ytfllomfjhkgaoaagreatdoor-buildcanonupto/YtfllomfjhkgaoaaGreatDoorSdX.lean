/- From a row's list of laid variables (buildCanonRow) to what the walks ask of memory; the world of the witness. -/
import Derived.Test.YtfllomfjhkgaoaaGreatDoorCards
import Derived.Test.YtfllomfjhkgaoaaGreatDoorTie
import Derived.Test.YtfllomfjhkgaoaaGreatDoorSc
import Derived.WalkKit
import Derived.ProofKit
import Derived.OpenShut
import Derived.Lib.LaidU8T
import Derived.Lib.LaidTab
import Derived.PinnedBridge
import Derived.Lay
import Derived.LaidMore
import Derived.SevenTiedAt
import Derived.Stop.Joined
import Derived.Deep.DeepHandedRow
import Derived.SizedLaws
namespace Go.Proofs.YtfllomfjhkgaoaaGreatDoor
open Go Go.RowKit Go.Lib Go.Shelf Go.ChangeShapes Go.WideShapes Go.ChangeAt
set_option linter.unusedVariables false

/-- The list that the rows bear. -/
def laidLX : List (String × DataW Unit) := Rows.buildCanonRow.laid
def ixLX : List Nat := [0, 4, 5, 6, 7, 8, 9, 10]
def textOfX : DataW Unit → List UInt8
  | .iface _ (.ptr (.agg [.lit (.string t)])) => t
  | _ => []
def errLX : List (String × List UInt8) := ((laidLX.drop 1).take 8).map fun x => (x.1, textOfX x.2)
theorem ownX : ownKnob Tryz.prog.godebug = none := by kernel_rfl
theorem starX : "*" ++ "errors.errorString" = "*errors.errorString" := by decide
theorem rowErrX (u : TypeId) (h : Tryz.prog.typeName? 3 u = some "*errors.errorString") : u = 189 :=
  typeName_ptr_named (nm := "errors.errorString") (by rw [starX]; kernel_rfl) (by kernel_rfl) (by decide) u (by rw [starX]; exact h)
theorem laidLX_len : laidLX.length = 10 := by kernel_rfl
theorem laidLX_eq : ∃ x0, laidLX = x0 :: (errLX.map mkErr ++ laidLX.drop 9) := ⟨laidLX[0]'(by rw [laidLX_len]; omega), by kernel_rfl⟩
theorem errLX_len : errLX.length = 8 := by kernel_rfl
theorem errLX_gs : (errLX.map fun x => Tryz.prog.globalNamed x.1) = (ixLX.map gE).map some := by kernel_rfl
theorem u8extraX : U8Extra Tryz.prog Tryz.lays197_ren := ⟨by kernel_rfl, by kernel_rfl, by kernel_rfl, by kernel_rfl, by kernel_rfl, by kernel_rfl, by kernel_rfl⟩
theorem u8typesX : U8Types Tryz.prog Tryz.lays197_ren := { Tryz.lays197 with }

theorem std_of_laidX {W : World} (h : laidMetH Tryz.prog laidLX W) : ∃ a, Std ixLX a W := by
  rw [MakeChecks.laidMetH_plain _ _ _ (by kernel_rfl)] at h
  have hT : Utf8Tabs 19 20 W := by
    have e1 : (laidLX[9]?).map (·.2) = some firstData := by rw [← Pinned.utf8First_eq]; kernel_rfl
    have e2 : (laidLX[0]?).map (·.2) = some acceptData := by kernel_rfl
    have mem : ∀ (i : Nat) (n : String) (d : DataW Unit), (laidLX[i]?).map (·.1) = some n → (laidLX[i]?).map (·.2) = some d → (n, d) ∈ laidLX := fun i n d h1 h2 => by
      cases hx : laidLX[i]? with
      | none => rw [hx] at h1; cases h1
      | some x =>
        rw [hx] at h1 h2
        simp only [Option.map_some, Option.some.injEq] at h1 h2
        subst h1; subst h2
        exact List.mem_of_getElem? hx
    exact utf8Tabs_of_readsT u8typesX u8extraX (laidMet.reads h (mem 9 _ _ (by kernel_rfl) e1)) (laidMet.reads h (mem 0 _ _ (by kernel_rfl) e2))
  obtain ⟨x0, hx⟩ := laidLX_eq
  rw [hx] at h
  obtain ⟨a, ha⟩ := errs_of_laid errLX (ixLX.map gE) Tryz.underlying28 rowErrX Tryz.underlying189 Tryz.underlying205 rfl rfl Tryz.underlying9 (by kernel_rfl) (by kernel_rfl) errLX_gs (by kernel_rfl) h.tail
  exact ⟨_, er_of_errs (by decide) ha, hT⟩

/-- The witness's world: the list is met there. -/
theorem wit_metX (os : Os) (args : Array Value) : laidMetH Tryz.prog laidLX ((World.laidAll Tryz.prog os laidLX).forCall (fun _ _ => 0) ⟨#[], args, []⟩).memory := by
  rw [MakeChecks.laidMetH_plain _ _ _ (by kernel_rfl)]
  exact laidMet_laidAll _ (by kernel_rfl) (by kernel_rfl)
end Go.Proofs.YtfllomfjhkgaoaaGreatDoor
