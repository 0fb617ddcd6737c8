/- From a row's list of laid variables (cellsLikeUptoRow) to what the walks ask of memory; the world of the witness. -/
import Derived.Test.YtalfdjglbbmjcabDoorCards
import Derived.Test.YtalfdjglbbmjcabDoorTie
import Derived.Test.YtalfdjglbbmjcabDoorSc
import Derived.WalkKit
import Derived.ProofKit
import Derived.OpenShut
import Derived.Lib.LaidU8T
import Derived.Lib.LaidTab
import Derived.PinnedBridge
import Derived.Lay
import Derived.LaidMore
import Derived.SevenTiedAt
import Derived.Stop.Joined
import Derived.Deep.DeepHandedRow
import Derived.SizedLaws
namespace Go.Proofs.YtalfdjglbbmjcabDoor
open Go Go.RowKit Go.Lib Go.Shelf Go.ChangeShapes Go.WideShapes Go.ChangeAt
set_option linter.unusedVariables false

/-- The list that the rows bear. -/
def laidLKa : List (String × DataW Unit) := Rows.cellsLikeUptoRow.laid
def ixLKa : List Nat := [0, 4, 5, 6, 7, 8, 9, 10]
def textOfKa : DataW Unit → List UInt8
  | .iface _ (.ptr (.agg [.lit (.string t)])) => t
  | _ => []
def errLKa : List (String × List UInt8) := ((laidLKa.drop 1).take 8).map fun x => (x.1, textOfKa x.2)
theorem ownKa : ownKnob Tryd.prog.godebug = none := by kernel_rfl
theorem starKa : "*" ++ "errors.errorString" = "*errors.errorString" := by decide
theorem rowErrKa (u : TypeId) (h : Tryd.prog.typeName? 3 u = some "*errors.errorString") : u = 134 :=
  typeName_ptr_named (nm := "errors.errorString") (by rw [starKa]; kernel_rfl) (by kernel_rfl) (by decide) u (by rw [starKa]; exact h)
theorem laidLKa_len : laidLKa.length = 10 := by kernel_rfl
theorem laidLKa_eq : ∃ x0, laidLKa = x0 :: (errLKa.map mkErr ++ laidLKa.drop 9) := ⟨laidLKa[0]'(by rw [laidLKa_len]; omega), by kernel_rfl⟩
theorem errLKa_len : errLKa.length = 8 := by kernel_rfl
theorem errLKa_gs : (errLKa.map fun x => Tryd.prog.globalNamed x.1) = (ixLKa.map gE).map some := by kernel_rfl
theorem u8extraKa : U8Extra Tryd.prog Tryd.lays197_ren := ⟨by kernel_rfl, by kernel_rfl, by kernel_rfl, by kernel_rfl, by kernel_rfl, by kernel_rfl, by kernel_rfl⟩
theorem u8typesKa : U8Types Tryd.prog Tryd.lays197_ren := { Tryd.lays197 with }

theorem std_of_laidKa {W : World} (h : laidMetH Tryd.prog laidLKa W) : ∃ a, Std ixLKa a W := by
  rw [MakeChecks.laidMetH_plain _ _ _ (by kernel_rfl)] at h
  have hT : Utf8Tabs 8 9 W := by
    have e1 : (laidLKa[9]?).map (·.2) = some firstData := by rw [← Pinned.utf8First_eq]; kernel_rfl
    have e2 : (laidLKa[0]?).map (·.2) = some acceptData := by kernel_rfl
    have mem : ∀ (i : Nat) (n : String) (d : DataW Unit), (laidLKa[i]?).map (·.1) = some n → (laidLKa[i]?).map (·.2) = some d → (n, d) ∈ laidLKa := fun i n d h1 h2 => by
      cases hx : laidLKa[i]? with
      | none => rw [hx] at h1; cases h1
      | some x =>
        rw [hx] at h1 h2
        simp only [Option.map_some, Option.some.injEq] at h1 h2
        subst h1; subst h2
        exact List.mem_of_getElem? hx
    exact utf8Tabs_of_readsT u8typesKa u8extraKa (laidMet.reads h (mem 9 _ _ (by kernel_rfl) e1)) (laidMet.reads h (mem 0 _ _ (by kernel_rfl) e2))
  obtain ⟨x0, hx⟩ := laidLKa_eq
  rw [hx] at h
  obtain ⟨a, ha⟩ := errs_of_laid errLKa (ixLKa.map gE) Tryd.underlying33 rowErrKa Tryd.underlying134 Tryd.underlying151 rfl rfl Tryd.underlying9 (by kernel_rfl) (by kernel_rfl) errLKa_gs (by kernel_rfl) h.tail
  exact ⟨_, er_of_errs (by decide) ha, hT⟩

/-- The witness's world: the list is met there. -/
theorem wit_metKa (os : Os) (args : Array Value) : laidMetH Tryd.prog laidLKa ((World.laidAll Tryd.prog os laidLKa).forCall (fun _ _ => 0) ⟨#[], args, []⟩).memory := by
  rw [MakeChecks.laidMetH_plain _ _ _ (by kernel_rfl)]
  exact laidMet_laidAll _ (by kernel_rfl) (by kernel_rfl)
end Go.Proofs.YtalfdjglbbmjcabDoor
