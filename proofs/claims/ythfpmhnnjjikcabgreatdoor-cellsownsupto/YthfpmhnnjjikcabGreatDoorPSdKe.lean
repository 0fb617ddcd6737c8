/- From a row's list of laid variables (cellsOwnsUptoRow) to what the walks ask of memory; the world of the witness. -/
import Derived.Test.YthfpmhnnjjikcabGreatDoorCards
import Derived.Test.YthfpmhnnjjikcabGreatDoorTie
import Derived.Test.YthfpmhnnjjikcabGreatDoorPSc
import Derived.WalkKit
import Derived.ProofKit
import Derived.OpenShut
import Derived.Lib.LaidU8T
import Derived.Lib.LaidTab
import Derived.PinnedBridge
import Derived.Lay
import Derived.LaidMore
import Derived.SevenTiedAt
import Derived.Stop.Joined
import Derived.Deep.DeepHandedRow
import Derived.SizedLaws
namespace Go.Proofs.YthfpmhnnjjikcabGreatDoor
open Go Go.RowKit Go.Lib Go.Shelf Go.ChangeShapes Go.WideShapes Go.ChangeAt
set_option linter.unusedVariables false
/-- The list that the rows bear. -/
def laidLKe : List (String × DataW Unit) := Rows.cellsOwnsUptoRow.laid
def ixLKe : List Nat := [0, 4, 5, 6, 7, 8, 9, 10, 11]
def textOfKe : DataW Unit → List UInt8
  | .iface _ (.ptr (.agg [.lit (.string t)])) => t
  | _ => []
def errLKe : List (String × List UInt8) := ((laidLKe.drop 1).take 9).map fun x => (x.1, textOfKe x.2)
theorem ownKe : ownKnob Tryz.prog.godebug = none := by kernel_rfl
theorem starKe : "*" ++ "errors.errorString" = "*errors.errorString" := by decide
theorem rowErrKe (u : TypeId) (h : Tryz.prog.typeName? 3 u = some "*errors.errorString") : u = 242 :=
  typeName_ptr_named (nm := "errors.errorString") (by rw [starKe]; kernel_rfl) (by kernel_rfl) (by decide) u (by rw [starKe]; exact h)
theorem laidLKe_len : laidLKe.length = 11 := by kernel_rfl
theorem laidLKe_eq : ∃ x0, laidLKe = x0 :: (errLKe.map mkErr ++ laidLKe.drop 10) := ⟨laidLKe[0]'(by rw [laidLKe_len]; omega), by kernel_rfl⟩
theorem errLKe_gs : (errLKe.map fun x => Tryz.prog.globalNamed x.1) = (ixLKe.map gE).map some := by kernel_rfl
theorem u8extraKe : U8Extra Tryz.prog Tryz.lays197_ren := ⟨by kernel_rfl, by kernel_rfl, by kernel_rfl, by kernel_rfl, by kernel_rfl, by kernel_rfl, by kernel_rfl⟩
theorem u8typesKe : U8Types Tryz.prog Tryz.lays197_ren := { Tryz.lays197 with }

theorem std_of_laidKe {W : World} (h : laidMetH Tryz.prog laidLKe W) : ∃ a, Std ixLKe a W := by
  rw [MakeChecks.laidMetH_plain _ _ _ (by kernel_rfl)] at h
  have hT : Utf8Tabs 19 20 W := by
    have e1 : (laidLKe[10]?).map (·.2) = some firstData := by rw [← Pinned.utf8First_eq]; kernel_rfl
    have e2 : (laidLKe[0]?).map (·.2) = some acceptData := by kernel_rfl
    have mem : ∀ (i : Nat) (n : String) (d : DataW Unit), (laidLKe[i]?).map (·.1) = some n → (laidLKe[i]?).map (·.2) = some d → (n, d) ∈ laidLKe := fun i n d h1 h2 => by
      cases hx : laidLKe[i]? with
      | none => rw [hx] at h1; cases h1
      | some x =>
        rw [hx] at h1 h2
        simp only [Option.map_some, Option.some.injEq] at h1 h2
        subst h1; subst h2
        exact List.mem_of_getElem? hx
    exact utf8Tabs_of_readsT u8typesKe u8extraKe (laidMet.reads h (mem 10 _ _ (by kernel_rfl) e1)) (laidMet.reads h (mem 0 _ _ (by kernel_rfl) e2))
  obtain ⟨x0, hx⟩ := laidLKe_eq
  rw [hx] at h
  obtain ⟨a, ha⟩ := errs_of_laid errLKe (ixLKe.map gE) Tryz.underlying27 rowErrKe Tryz.underlying242 Tryz.underlying257 rfl rfl Tryz.underlying9 (by kernel_rfl) (by kernel_rfl) errLKe_gs (by kernel_rfl) h.tail
  exact ⟨_, er_of_errs (by decide) ha, hT⟩

/-- The witness's world: the list is met there. -/
theorem wit_metKe (os : Os) (args : Array Value) : laidMetH Tryz.prog laidLKe ((World.laidAll Tryz.prog os laidLKe).forCall (fun _ _ => 0) ⟨#[], args, []⟩).memory := by
  rw [MakeChecks.laidMetH_plain _ _ _ (by kernel_rfl)]
  exact laidMet_laidAll _ (by kernel_rfl) (by kernel_rfl)
end Go.Proofs.YthfpmhnnjjikcabGreatDoor
