/- From a row's list of laid variables (cellsOfUptoRow) to what the walks ask of memory; the world of the witness. -/
import Derived.Test.YtalfdjglbbmjcabGreatDoorCards
import Derived.Test.YtalfdjglbbmjcabGreatDoorTie
import Derived.Test.YtalfdjglbbmjcabGreatDoorSc
import Derived.WalkKit
import Derived.ProofKit
import Derived.OpenShut
import Derived.Lib.LaidU8T
import Derived.Lib.LaidTab
import Derived.PinnedBridge
import Derived.Lay
import Derived.LaidMore
import Derived.SevenTiedAt
import Derived.Stop.Joined
import Derived.Deep.DeepHandedRow
import Derived.SizedLaws
namespace Go.Proofs.YtalfdjglbbmjcabGreatDoor
open Go Go.RowKit Go.Lib Go.Shelf Go.ChangeShapes Go.WideShapes Go.ChangeAt
set_option linter.unusedVariables false

/-- The list that the rows bear. -/
def laidLKb : List (String × DataW Unit) := Rows.cellsOfUptoRow.laid
def ixLKb : List Nat := [0, 1, 2, 3, 4, 5, 6, 7, 8, 9, 10, 11, 12, 13, 14, 15, 16, 17, 18]
def textOfKb : DataW Unit → List UInt8
  | .iface _ (.ptr (.agg [.lit (.string t)])) => t
  | _ => []
def errLKb : List (String × List UInt8) := ((laidLKb.drop 1).take 19).map fun x => (x.1, textOfKb x.2)
theorem ownKb : ownKnob Tryz.prog.godebug = none := by kernel_rfl
theorem starKb : "*" ++ "errors.errorString" = "*errors.errorString" := by decide
theorem rowErrKb (u : TypeId) (h : Tryz.prog.typeName? 3 u = some "*errors.errorString") : u = 216 :=
  typeName_ptr_named (nm := "errors.errorString") (by rw [starKb]; kernel_rfl) (by kernel_rfl) (by decide) u (by rw [starKb]; exact h)
theorem laidLKb_len : laidLKb.length = 21 := by kernel_rfl
theorem laidLKb_eq : ∃ x0, laidLKb = x0 :: (errLKb.map mkErr ++ laidLKb.drop 20) := ⟨laidLKb[0]'(by rw [laidLKb_len]; omega), by kernel_rfl⟩
theorem errLKb_len : errLKb.length = 19 := by kernel_rfl
theorem errLKb_gs : (errLKb.map fun x => Tryz.prog.globalNamed x.1) = (ixLKb.map gE).map some := by kernel_rfl
theorem u8extraKb : U8Extra Tryz.prog Tryz.lays197_ren := ⟨by kernel_rfl, by kernel_rfl, by kernel_rfl, by kernel_rfl, by kernel_rfl, by kernel_rfl, by kernel_rfl⟩
theorem u8typesKb : U8Types Tryz.prog Tryz.lays197_ren := { Tryz.lays197 with }

theorem std_of_laidKb {W : World} (h : laidMetH Tryz.prog laidLKb W) : ∃ a, Std ixLKb a W := by
  rw [MakeChecks.laidMetH_plain _ _ _ (by kernel_rfl)] at h
  have hT : Utf8Tabs 19 20 W := by
    have e1 : (laidLKb[20]?).map (·.2) = some firstData := by rw [← Pinned.utf8First_eq]; kernel_rfl
    have e2 : (laidLKb[0]?).map (·.2) = some acceptData := by kernel_rfl
    have mem : ∀ (i : Nat) (n : String) (d : DataW Unit), (laidLKb[i]?).map (·.1) = some n → (laidLKb[i]?).map (·.2) = some d → (n, d) ∈ laidLKb := fun i n d h1 h2 => by
      cases hx : laidLKb[i]? with
      | none => rw [hx] at h1; cases h1
      | some x =>
        rw [hx] at h1 h2
        simp only [Option.map_some, Option.some.injEq] at h1 h2
        subst h1; subst h2
        exact List.mem_of_getElem? hx
    exact utf8Tabs_of_readsT u8typesKb u8extraKb (laidMet.reads h (mem 20 _ _ (by kernel_rfl) e1)) (laidMet.reads h (mem 0 _ _ (by kernel_rfl) e2))
  obtain ⟨x0, hx⟩ := laidLKb_eq
  rw [hx] at h
  obtain ⟨a, ha⟩ := errs_of_laid errLKb (ixLKb.map gE) Tryz.underlying33 rowErrKb Tryz.underlying216 Tryz.underlying231 rfl rfl Tryz.underlying9 (by kernel_rfl) (by kernel_rfl) errLKb_gs (by kernel_rfl) h.tail
  exact ⟨_, er_of_errs (by decide) ha, hT⟩

/-- The witness's world: the list is met there. -/
theorem wit_metKb (os : Os) (args : Array Value) : laidMetH Tryz.prog laidLKb ((World.laidAll Tryz.prog os laidLKb).forCall (fun _ _ => 0) ⟨#[], args, []⟩).memory := by
  rw [MakeChecks.laidMetH_plain _ _ _ (by kernel_rfl)]
  exact laidMet_laidAll _ (by kernel_rfl) (by kernel_rfl)
end Go.Proofs.YtalfdjglbbmjcabGreatDoor
