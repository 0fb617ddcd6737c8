/- From a row's list of laid variables (measurePlaysRow) to what the walks ask of memory; the world of the witness. -/
import Derived.Test.YtalfdjglbbmjcaaGreatDoorCards
import Derived.Test.YtalfdjglbbmjcaaGreatDoorTie
import Derived.Test.YtalfdjglbbmjcaaGreatDoorSc
import Derived.WalkKit
import Derived.ProofKit
import Derived.OpenShut
import Derived.Lib.LaidU8T
import Derived.Lib.LaidTab
import Derived.PinnedBridge
import Derived.Lay
import Derived.LaidMore
import Derived.SevenTiedAt
import Derived.Stop.Joined
import Derived.Deep.DeepHandedRow
import Derived.SizedLaws
namespace Go.Proofs.YtalfdjglbbmjcaaGreatDoor
open Go Go.RowKit Go.Lib Go.Shelf Go.ChangeShapes Go.WideShapes Go.ChangeAt
set_option linter.unusedVariables false

/-- The list that the rows bear. -/
def laidLS : List (String × DataW Unit) := Rows.measurePlaysRow.laid
def ixLS : List Nat := [0, 1, 2, 3, 4, 5, 6, 7, 8, 9, 10, 11, 12, 13, 14, 15, 16, 17, 18]
def textOfS : DataW Unit → List UInt8
  | .iface _ (.ptr (.agg [.lit (.string t)])) => t
  | _ => []
def errLS : List (String × List UInt8) := ((laidLS.drop 1).take 19).map fun x => (x.1, textOfS x.2)
theorem ownS : ownKnob Tryz.prog.godebug = none := by kernel_rfl
theorem starS : "*" ++ "errors.errorString" = "*errors.errorString" := by decide
theorem rowErrS (u : TypeId) (h : Tryz.prog.typeName? 3 u = some "*errors.errorString") : u = 236 :=
  typeName_ptr_named (nm := "errors.errorString") (by rw [starS]; kernel_rfl) (by kernel_rfl) (by decide) u (by rw [starS]; exact h)
theorem laidLS_len : laidLS.length = 21 := by kernel_rfl
theorem laidLS_eq : ∃ x0, laidLS = x0 :: (errLS.map mkErr ++ laidLS.drop 20) := ⟨laidLS[0]'(by rw [laidLS_len]; omega), by kernel_rfl⟩
theorem errLS_len : errLS.length = 19 := by kernel_rfl
theorem errLS_gs : (errLS.map fun x => Tryz.prog.globalNamed x.1) = (ixLS.map gE).map some := by kernel_rfl
theorem u8extraS : U8Extra Tryz.prog Tryz.lays197_ren := ⟨by kernel_rfl, by kernel_rfl, by kernel_rfl, by kernel_rfl, by kernel_rfl, by kernel_rfl, by kernel_rfl⟩
theorem u8typesS : U8Types Tryz.prog Tryz.lays197_ren := { Tryz.lays197 with }

theorem std_of_laidS {W : World} (h : laidMetH Tryz.prog laidLS W) : ∃ a, Std ixLS a W := by
  rw [MakeChecks.laidMetH_plain _ _ _ (by kernel_rfl)] at h
  have hT : Utf8Tabs 19 20 W := by
    have e1 : (laidLS[20]?).map (·.2) = some firstData := by rw [← Pinned.utf8First_eq]; kernel_rfl
    have e2 : (laidLS[0]?).map (·.2) = some acceptData := by kernel_rfl
    have mem : ∀ (i : Nat) (n : String) (d : DataW Unit), (laidLS[i]?).map (·.1) = some n → (laidLS[i]?).map (·.2) = some d → (n, d) ∈ laidLS := fun i n d h1 h2 => by
      cases hx : laidLS[i]? with
      | none => rw [hx] at h1; cases h1
      | some x =>
        rw [hx] at h1 h2
        simp only [Option.map_some, Option.some.injEq] at h1 h2
        subst h1; subst h2
        exact List.mem_of_getElem? hx
    exact utf8Tabs_of_readsT u8typesS u8extraS (laidMet.reads h (mem 20 _ _ (by kernel_rfl) e1)) (laidMet.reads h (mem 0 _ _ (by kernel_rfl) e2))
  obtain ⟨x0, hx⟩ := laidLS_eq
  rw [hx] at h
  obtain ⟨a, ha⟩ := errs_of_laid errLS (ixLS.map gE) Tryz.underlying40 rowErrS Tryz.underlying236 Tryz.underlying252 rfl rfl Tryz.underlying9 (by kernel_rfl) (by kernel_rfl) errLS_gs (by kernel_rfl) h.tail
  exact ⟨_, er_of_errs (by decide) ha, hT⟩

/-- The witness's world: the list is met there. -/
theorem wit_metS (os : Os) (args : Array Value) : laidMetH Tryz.prog laidLS ((World.laidAll Tryz.prog os laidLS).forCall (fun _ _ => 0) ⟨#[], args, []⟩).memory := by
  rw [MakeChecks.laidMetH_plain _ _ _ (by kernel_rfl)]
  exact laidMet_laidAll _ (by kernel_rfl) (by kernel_rfl)
end Go.Proofs.YtalfdjglbbmjcaaGreatDoor
