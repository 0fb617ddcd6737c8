/- From a row's list of laid variables (cellsBackUptoRow) to what the walks ask of memory; the world of the witness. -/
import Derived.Test.YtalfdjglbbmjcabGreatDoorCards
import Derived.Test.YtalfdjglbbmjcabGreatDoorTie
import Derived.Test.YtalfdjglbbmjcabGreatDoorSc
import Derived.WalkKit
import Derived.ProofKit
import Derived.OpenShut
import Derived.Lib.LaidU8T
import Derived.Lib.LaidTab
import Derived.PinnedBridge
import Derived.Lay
import Derived.LaidMore
import Derived.SevenTiedAt
import Derived.Stop.Joined
import Derived.Deep.DeepHandedRow
import Derived.SizedLaws
namespace Go.Proofs.YtalfdjglbbmjcabGreatDoor
open Go Go.RowKit Go.Lib Go.Shelf Go.ChangeShapes Go.WideShapes Go.ChangeAt
set_option linter.unusedVariables false

/-- The list that the rows bear. -/
def laidLKc : List (String × DataW Unit) := Rows.cellsBackUptoRow.laid
def ixLKc : List Nat := [0, 4, 5, 6, 7, 8, 9, 10]
def textOfKc : DataW Unit → List UInt8
  | .iface _ (.ptr (.agg [.lit (.string t)])) => t
  | _ => []
def errLKc : List (String × List UInt8) := ((laidLKc.drop 1).take 8).map fun x => (x.1, textOfKc x.2)
theorem ownKc : ownKnob Tryz.prog.godebug = none := by kernel_rfl
theorem starKc : "*" ++ "errors.errorString" = "*errors.errorString" := by decide
theorem rowErrKc (u : TypeId) (h : Tryz.prog.typeName? 3 u = some "*errors.errorString") : u = 216 :=
  typeName_ptr_named (nm := "errors.errorString") (by rw [starKc]; kernel_rfl) (by kernel_rfl) (by decide) u (by rw [starKc]; exact h)
theorem laidLKc_len : laidLKc.length = 10 := by kernel_rfl
theorem laidLKc_eq : ∃ x0, laidLKc = x0 :: (errLKc.map mkErr ++ laidLKc.drop 9) := ⟨laidLKc[0]'(by rw [laidLKc_len]; omega), by kernel_rfl⟩
theorem errLKc_len : errLKc.length = 8 := by kernel_rfl
theorem errLKc_gs : (errLKc.map fun x => Tryz.prog.globalNamed x.1) = (ixLKc.map gE).map some := by kernel_rfl
theorem u8extraKc : U8Extra Tryz.prog Tryz.lays197_ren := ⟨by kernel_rfl, by kernel_rfl, by kernel_rfl, by kernel_rfl, by kernel_rfl, by kernel_rfl, by kernel_rfl⟩
theorem u8typesKc : U8Types Tryz.prog Tryz.lays197_ren := { Tryz.lays197 with }

theorem std_of_laidKc {W : World} (h : laidMetH Tryz.prog laidLKc W) : ∃ a, Std ixLKc a W := by
  rw [MakeChecks.laidMetH_plain _ _ _ (by kernel_rfl)] at h
  have hT : Utf8Tabs 19 20 W := by
    have e1 : (laidLKc[9]?).map (·.2) = some firstData := by rw [← Pinned.utf8First_eq]; kernel_rfl
    have e2 : (laidLKc[0]?).map (·.2) = some acceptData := by kernel_rfl
    have mem : ∀ (i : Nat) (n : String) (d : DataW Unit), (laidLKc[i]?).map (·.1) = some n → (laidLKc[i]?).map (·.2) = some d → (n, d) ∈ laidLKc := fun i n d h1 h2 => by
      cases hx : laidLKc[i]? with
      | none => rw [hx] at h1; cases h1
      | some x =>
        rw [hx] at h1 h2
        simp only [Option.map_some, Option.some.injEq] at h1 h2
        subst h1; subst h2
        exact List.mem_of_getElem? hx
    exact utf8Tabs_of_readsT u8typesKc u8extraKc (laidMet.reads h (mem 9 _ _ (by kernel_rfl) e1)) (laidMet.reads h (mem 0 _ _ (by kernel_rfl) e2))
  obtain ⟨x0, hx⟩ := laidLKc_eq
  rw [hx] at h
  obtain ⟨a, ha⟩ := errs_of_laid errLKc (ixLKc.map gE) Tryz.underlying33 rowErrKc Tryz.underlying216 Tryz.underlying231 rfl rfl Tryz.underlying9 (by kernel_rfl) (by kernel_rfl) errLKc_gs (by kernel_rfl) h.tail
  exact ⟨_, er_of_errs (by decide) ha, hT⟩

/-- The witness's world: the list is met there. -/
theorem wit_metKc (os : Os) (args : Array Value) : laidMetH Tryz.prog laidLKc ((World.laidAll Tryz.prog os laidLKc).forCall (fun _ _ => 0) ⟨#[], args, []⟩).memory := by
  rw [MakeChecks.laidMetH_plain _ _ _ (by kernel_rfl)]
  exact laidMet_laidAll _ (by kernel_rfl) (by kernel_rfl)
end Go.Proofs.YtalfdjglbbmjcabGreatDoor
