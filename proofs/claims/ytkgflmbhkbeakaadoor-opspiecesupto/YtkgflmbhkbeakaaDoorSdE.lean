/- From a row's list of laid variables (opsPlaysRow) to what the walks ask of memory; the world of the witness. -/
import Derived.Test.YtkgflmbhkbeakaaDoorCards
import Derived.Test.YtkgflmbhkbeakaaDoorTie
import Derived.Test.YtkgflmbhkbeakaaDoorSc
import Derived.WalkKit
import Derived.ProofKit
import Derived.OpenShut
import Derived.Lib.LaidU8T
import Derived.Lib.LaidTab
import Derived.PinnedBridge
import Derived.Lay
import Derived.LaidMore
import Derived.SevenTiedAt
import Derived.Stop.Joined
import Derived.Deep.DeepHandedRow
import Derived.SizedLaws
namespace Go.Proofs.YtkgflmbhkbeakaaDoor
open Go Go.RowKit Go.Lib Go.Shelf Go.ChangeShapes Go.WideShapes Go.ChangeAt
set_option linter.unusedVariables false

/-- The list that the rows bear. -/
def laidLE : List (String × DataW Unit) := Rows.opsPlaysRow.laid
def ixLE : List Nat := [0, 1, 2, 3, 4, 5, 6, 7, 8, 9, 10, 11, 12, 13, 14, 15, 16, 17, 18]
def textOfE : DataW Unit → List UInt8
  | .iface _ (.ptr (.agg [.lit (.string t)])) => t
  | _ => []
def errLE : List (String × List UInt8) := ((laidLE.drop 1).take 19).map fun x => (x.1, textOfE x.2)
theorem ownE : ownKnob Tryd.prog.godebug = none := by kernel_rfl
theorem starE : "*" ++ "errors.errorString" = "*errors.errorString" := by decide
theorem rowErrE (u : TypeId) (h : Tryd.prog.typeName? 3 u = some "*errors.errorString") : u = 175 :=
  typeName_ptr_named (nm := "errors.errorString") (by rw [starE]; kernel_rfl) (by kernel_rfl) (by decide) u (by rw [starE]; exact h)
theorem laidLE_len : laidLE.length = 21 := by kernel_rfl
theorem laidLE_eq : ∃ x0, laidLE = x0 :: (errLE.map mkErr ++ laidLE.drop 20) := ⟨laidLE[0]'(by rw [laidLE_len]; omega), by kernel_rfl⟩
theorem errLE_len : errLE.length = 19 := by kernel_rfl
theorem errLE_gs : (errLE.map fun x => Tryd.prog.globalNamed x.1) = (ixLE.map gE).map some := by kernel_rfl
theorem u8extraE : U8Extra Tryd.prog Tryd.lays197_ren := ⟨by kernel_rfl, by kernel_rfl, by kernel_rfl, by kernel_rfl, by kernel_rfl, by kernel_rfl, by kernel_rfl⟩
theorem u8typesE : U8Types Tryd.prog Tryd.lays197_ren := { Tryd.lays197 with }

theorem std_of_laidE {W : World} (h : laidMetH Tryd.prog laidLE W) : ∃ a, Std ixLE a W := by
  rw [MakeChecks.laidMetH_plain _ _ _ (by kernel_rfl)] at h
  have hT : Utf8Tabs 19 20 W := by
    have e1 : (laidLE[20]?).map (·.2) = some firstData := by rw [← Pinned.utf8First_eq]; kernel_rfl
    have e2 : (laidLE[0]?).map (·.2) = some acceptData := by kernel_rfl
    have mem : ∀ (i : Nat) (n : String) (d : DataW Unit), (laidLE[i]?).map (·.1) = some n → (laidLE[i]?).map (·.2) = some d → (n, d) ∈ laidLE := fun i n d h1 h2 => by
      cases hx : laidLE[i]? with
      | none => rw [hx] at h1; cases h1
      | some x =>
        rw [hx] at h1 h2
        simp only [Option.map_some, Option.some.injEq] at h1 h2
        subst h1; subst h2
        exact List.mem_of_getElem? hx
    exact utf8Tabs_of_readsT u8typesE u8extraE (laidMet.reads h (mem 20 _ _ (by kernel_rfl) e1)) (laidMet.reads h (mem 0 _ _ (by kernel_rfl) e2))
  obtain ⟨x0, hx⟩ := laidLE_eq
  rw [hx] at h
  obtain ⟨a, ha⟩ := errs_of_laid errLE (ixLE.map gE) Tryd.underlying27 rowErrE Tryd.underlying175 Tryd.underlying191 rfl rfl Tryd.underlying9 (by kernel_rfl) (by kernel_rfl) errLE_gs (by kernel_rfl) h.tail
  exact ⟨_, er_of_errs (by decide) ha, hT⟩

/-- The witness's world: the list is met there. -/
theorem wit_metE (os : Os) (args : Array Value) : laidMetH Tryd.prog laidLE ((World.laidAll Tryd.prog os laidLE).forCall (fun _ _ => 0) ⟨#[], args, []⟩).memory := by
  rw [MakeChecks.laidMetH_plain _ _ _ (by kernel_rfl)]
  exact laidMet_laidAll _ (by kernel_rfl) (by kernel_rfl)
end Go.Proofs.YtkgflmbhkbeakaaDoor
