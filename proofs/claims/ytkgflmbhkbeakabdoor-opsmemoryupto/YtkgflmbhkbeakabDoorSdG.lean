/- From a row's list of laid variables (opsSumsRow) to what the walks ask of memory; the world of the witness. -/
import Derived.Test.YtkgflmbhkbeakabDoorCards
import Derived.Test.YtkgflmbhkbeakabDoorTie
import Derived.Test.YtkgflmbhkbeakabDoorSc
import Derived.WalkKit
import Derived.ProofKit
import Derived.OpenShut
import Derived.Lib.LaidU8T
import Derived.Lib.LaidTab
import Derived.PinnedBridge
import Derived.Lay
import Derived.LaidMore
import Derived.SevenTiedAt
import Derived.Stop.Joined
import Derived.Deep.DeepHandedRow
import Derived.SizedLaws
namespace Go.Proofs.YtkgflmbhkbeakabDoor
open Go Go.RowKit Go.Lib Go.Shelf Go.ChangeShapes Go.WideShapes Go.ChangeAt
set_option linter.unusedVariables false

/-- The list that the rows bear. -/
def laidLG : List (String × DataW Unit) := Rows.opsSumsRow.laid
def ixLG : List Nat := [0, 1, 2, 3, 4, 5, 6, 7, 8, 9, 10, 11, 12, 13, 14, 15, 16, 17, 18]
def textOfG : DataW Unit → List UInt8
  | .iface _ (.ptr (.agg [.lit (.string t)])) => t
  | _ => []
def errLG : List (String × List UInt8) := ((laidLG.drop 1).take 19).map fun x => (x.1, textOfG x.2)
theorem ownG : ownKnob Tryd.prog.godebug = none := by kernel_rfl
theorem starG : "*" ++ "errors.errorString" = "*errors.errorString" := by decide
theorem rowErrG (u : TypeId) (h : Tryd.prog.typeName? 3 u = some "*errors.errorString") : u = 118 :=
  typeName_ptr_named (nm := "errors.errorString") (by rw [starG]; kernel_rfl) (by kernel_rfl) (by decide) u (by rw [starG]; exact h)
theorem laidLG_len : laidLG.length = 21 := by kernel_rfl
theorem laidLG_eq : ∃ x0, laidLG = x0 :: (errLG.map mkErr ++ laidLG.drop 20) := ⟨laidLG[0]'(by rw [laidLG_len]; omega), by kernel_rfl⟩
theorem errLG_len : errLG.length = 19 := by kernel_rfl
theorem errLG_gs : (errLG.map fun x => Tryd.prog.globalNamed x.1) = (ixLG.map gE).map some := by kernel_rfl
theorem u8extraG : U8Extra Tryd.prog Tryd.lays197_ren := ⟨by kernel_rfl, by kernel_rfl, by kernel_rfl, by kernel_rfl, by kernel_rfl, by kernel_rfl, by kernel_rfl⟩
theorem u8typesG : U8Types Tryd.prog Tryd.lays197_ren := { Tryd.lays197 with }

theorem std_of_laidG {W : World} (h : laidMetH Tryd.prog laidLG W) : ∃ a, Std ixLG a W := by
  rw [MakeChecks.laidMetH_plain _ _ _ (by kernel_rfl)] at h
  have hT : Utf8Tabs 19 20 W := by
    have e1 : (laidLG[20]?).map (·.2) = some firstData := by rw [← Pinned.utf8First_eq]; kernel_rfl
    have e2 : (laidLG[0]?).map (·.2) = some acceptData := by kernel_rfl
    have mem : ∀ (i : Nat) (n : String) (d : DataW Unit), (laidLG[i]?).map (·.1) = some n → (laidLG[i]?).map (·.2) = some d → (n, d) ∈ laidLG := fun i n d h1 h2 => by
      cases hx : laidLG[i]? with
      | none => rw [hx] at h1; cases h1
      | some x =>
        rw [hx] at h1 h2
        simp only [Option.map_some, Option.some.injEq] at h1 h2
        subst h1; subst h2
        exact List.mem_of_getElem? hx
    exact utf8Tabs_of_readsT u8typesG u8extraG (laidMet.reads h (mem 20 _ _ (by kernel_rfl) e1)) (laidMet.reads h (mem 0 _ _ (by kernel_rfl) e2))
  obtain ⟨x0, hx⟩ := laidLG_eq
  rw [hx] at h
  obtain ⟨a, ha⟩ := errs_of_laid errLG (ixLG.map gE) Tryd.underlying25 rowErrG Tryd.underlying118 Tryd.underlying135 rfl rfl Tryd.underlying9 (by kernel_rfl) (by kernel_rfl) errLG_gs (by kernel_rfl) h.tail
  exact ⟨_, er_of_errs (by decide) ha, hT⟩

/-- The witness's world: the list is met there. -/
theorem wit_metG (os : Os) (args : Array Value) : laidMetH Tryd.prog laidLG ((World.laidAll Tryd.prog os laidLG).forCall (fun _ _ => 0) ⟨#[], args, []⟩).memory := by
  rw [MakeChecks.laidMetH_plain _ _ _ (by kernel_rfl)]
  exact laidMet_laidAll _ (by kernel_rfl) (by kernel_rfl)
end Go.Proofs.YtkgflmbhkbeakabDoor
