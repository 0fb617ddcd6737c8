/- From a row's list of laid variables (measureJoinsRow) to what the walks ask of memory; the world of the witness. -/
import Derived.Test.YtgimcloadjjefabGreatDoorCards
import Derived.Test.YtgimcloadjjefabGreatDoorTie
import Derived.Test.YtgimcloadjjefabGreatDoorSc
import Derived.WalkKit
import Derived.ProofKit
import Derived.OpenShut
import Derived.Lib.LaidU8T
import Derived.Lib.LaidTab
import Derived.PinnedBridge
import Derived.Lay
import Derived.LaidMore
import Derived.SevenTiedAt
import Derived.Stop.Joined
import Derived.Deep.DeepHandedRow
import Derived.SizedLaws
namespace Go.Proofs.YtgimcloadjjefabGreatDoor
open Go Go.RowKit Go.Lib Go.Shelf Go.ChangeShapes Go.WideShapes Go.ChangeAt
set_option linter.unusedVariables false

/-- The list that the rows bear. -/
def laidLQ : List (String × DataW Unit) := Rows.measureJoinsRow.laid
def ixLQ : List Nat := [0, 1, 2, 3, 4, 5, 6, 7, 8, 9, 10, 11, 12, 13, 14, 15, 16, 17, 18]
def textOfQ : DataW Unit → List UInt8
  | .iface _ (.ptr (.agg [.lit (.string t)])) => t
  | _ => []
def errLQ : List (String × List UInt8) := ((laidLQ.drop 1).take 19).map fun x => (x.1, textOfQ x.2)
theorem ownQ : ownKnob Tryz.prog.godebug = none := by kernel_rfl
theorem starQ : "*" ++ "errors.errorString" = "*errors.errorString" := by decide
theorem rowErrQ (u : TypeId) (h : Tryz.prog.typeName? 3 u = some "*errors.errorString") : u = 180 :=
  typeName_ptr_named (nm := "errors.errorString") (by rw [starQ]; kernel_rfl) (by kernel_rfl) (by decide) u (by rw [starQ]; exact h)
theorem laidLQ_len : laidLQ.length = 21 := by kernel_rfl
theorem laidLQ_eq : ∃ x0, laidLQ = x0 :: (errLQ.map mkErr ++ laidLQ.drop 20) := ⟨laidLQ[0]'(by rw [laidLQ_len]; omega), by kernel_rfl⟩
theorem errLQ_len : errLQ.length = 19 := by kernel_rfl
theorem errLQ_gs : (errLQ.map fun x => Tryz.prog.globalNamed x.1) = (ixLQ.map gE).map some := by kernel_rfl
theorem u8extraQ : U8Extra Tryz.prog Tryz.lays197_ren := ⟨by kernel_rfl, by kernel_rfl, by kernel_rfl, by kernel_rfl, by kernel_rfl, by kernel_rfl, by kernel_rfl⟩
theorem u8typesQ : U8Types Tryz.prog Tryz.lays197_ren := { Tryz.lays197 with }

theorem std_of_laidQ {W : World} (h : laidMetH Tryz.prog laidLQ W) : ∃ a, Std ixLQ a W := by
  rw [MakeChecks.laidMetH_plain _ _ _ (by kernel_rfl)] at h
  have hT : Utf8Tabs 19 20 W := by
    have e1 : (laidLQ[20]?).map (·.2) = some firstData := by rw [← Pinned.utf8First_eq]; kernel_rfl
    have e2 : (laidLQ[0]?).map (·.2) = some acceptData := by kernel_rfl
    have mem : ∀ (i : Nat) (n : String) (d : DataW Unit), (laidLQ[i]?).map (·.1) = some n → (laidLQ[i]?).map (·.2) = some d → (n, d) ∈ laidLQ := fun i n d h1 h2 => by
      cases hx : laidLQ[i]? with
      | none => rw [hx] at h1; cases h1
      | some x =>
        rw [hx] at h1 h2
        simp only [Option.map_some, Option.some.injEq] at h1 h2
        subst h1; subst h2
        exact List.mem_of_getElem? hx
    exact utf8Tabs_of_readsT u8typesQ u8extraQ (laidMet.reads h (mem 20 _ _ (by kernel_rfl) e1)) (laidMet.reads h (mem 0 _ _ (by kernel_rfl) e2))
  obtain ⟨x0, hx⟩ := laidLQ_eq
  rw [hx] at h
  obtain ⟨a, ha⟩ := errs_of_laid errLQ (ixLQ.map gE) Tryz.underlying31 rowErrQ Tryz.underlying180 Tryz.underlying196 rfl rfl Tryz.underlying9 (by kernel_rfl) (by kernel_rfl) errLQ_gs (by kernel_rfl) h.tail
  exact ⟨_, er_of_errs (by decide) ha, hT⟩

/-- The witness's world: the list is met there. -/
theorem wit_metQ (os : Os) (args : Array Value) : laidMetH Tryz.prog laidLQ ((World.laidAll Tryz.prog os laidLQ).forCall (fun _ _ => 0) ⟨#[], args, []⟩).memory := by
  rw [MakeChecks.laidMetH_plain _ _ _ (by kernel_rfl)]
  exact laidMet_laidAll _ (by kernel_rfl) (by kernel_rfl)
end Go.Proofs.YtgimcloadjjefabGreatDoor
