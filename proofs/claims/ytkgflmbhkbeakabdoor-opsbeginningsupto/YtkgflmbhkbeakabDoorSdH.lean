/- From a row's list of laid variables (opsBeginningsRow) to what the walks ask of memory; the world of the witness. -/
import Derived.Test.YtkgflmbhkbeakabDoorCards
import Derived.Test.YtkgflmbhkbeakabDoorTie
import Derived.Test.YtkgflmbhkbeakabDoorSc
import Derived.WalkKit
import Derived.ProofKit
import Derived.OpenShut
import Derived.Lib.LaidU8T
import Derived.Lib.LaidTab
import Derived.PinnedBridge
import Derived.Lay
import Derived.LaidMore
import Derived.SevenTiedAt
import Derived.Stop.Joined
import Derived.Deep.DeepHandedRow
import Derived.SizedLaws
namespace Go.Proofs.YtkgflmbhkbeakabDoor
open Go Go.RowKit Go.Lib Go.Shelf Go.ChangeShapes Go.WideShapes Go.ChangeAt
set_option linter.unusedVariables false

/-- The list that the rows bear. -/
def laidLH : List (String × DataW Unit) := Rows.opsBeginningsRow.laid
def ixLH : List Nat := [0, 4, 5, 6, 7, 8, 9, 10]
def textOfH : DataW Unit → List UInt8
  | .iface _ (.ptr (.agg [.lit (.string t)])) => t
  | _ => []
def errLH : List (String × List UInt8) := ((laidLH.drop 1).take 8).map fun x => (x.1, textOfH x.2)
theorem ownH : ownKnob Tryd.prog.godebug = none := by kernel_rfl
theorem starH : "*" ++ "errors.errorString" = "*errors.errorString" := by decide
theorem rowErrH (u : TypeId) (h : Tryd.prog.typeName? 3 u = some "*errors.errorString") : u = 118 :=
  typeName_ptr_named (nm := "errors.errorString") (by rw [starH]; kernel_rfl) (by kernel_rfl) (by decide) u (by rw [starH]; exact h)
theorem laidLH_len : laidLH.length = 10 := by kernel_rfl
theorem laidLH_eq : ∃ x0, laidLH = x0 :: (errLH.map mkErr ++ laidLH.drop 9) := ⟨laidLH[0]'(by rw [laidLH_len]; omega), by kernel_rfl⟩
theorem errLH_len : errLH.length = 8 := by kernel_rfl
theorem errLH_gs : (errLH.map fun x => Tryd.prog.globalNamed x.1) = (ixLH.map gE).map some := by kernel_rfl
theorem u8extraH : U8Extra Tryd.prog Tryd.lays197_ren := ⟨by kernel_rfl, by kernel_rfl, by kernel_rfl, by kernel_rfl, by kernel_rfl, by kernel_rfl, by kernel_rfl⟩
theorem u8typesH : U8Types Tryd.prog Tryd.lays197_ren := { Tryd.lays197 with }

theorem std_of_laidH {W : World} (h : laidMetH Tryd.prog laidLH W) : ∃ a, Std ixLH a W := by
  rw [MakeChecks.laidMetH_plain _ _ _ (by kernel_rfl)] at h
  have hT : Utf8Tabs 19 20 W := by
    have e1 : (laidLH[9]?).map (·.2) = some firstData := by rw [← Pinned.utf8First_eq]; kernel_rfl
    have e2 : (laidLH[0]?).map (·.2) = some acceptData := by kernel_rfl
    have mem : ∀ (i : Nat) (n : String) (d : DataW Unit), (laidLH[i]?).map (·.1) = some n → (laidLH[i]?).map (·.2) = some d → (n, d) ∈ laidLH := fun i n d h1 h2 => by
      cases hx : laidLH[i]? with
      | none => rw [hx] at h1; cases h1
      | some x =>
        rw [hx] at h1 h2
        simp only [Option.map_some, Option.some.injEq] at h1 h2
        subst h1; subst h2
        exact List.mem_of_getElem? hx
    exact utf8Tabs_of_readsT u8typesH u8extraH (laidMet.reads h (mem 9 _ _ (by kernel_rfl) e1)) (laidMet.reads h (mem 0 _ _ (by kernel_rfl) e2))
  obtain ⟨x0, hx⟩ := laidLH_eq
  rw [hx] at h
  obtain ⟨a, ha⟩ := errs_of_laid errLH (ixLH.map gE) Tryd.underlying25 rowErrH Tryd.underlying118 Tryd.underlying135 rfl rfl Tryd.underlying9 (by kernel_rfl) (by kernel_rfl) errLH_gs (by kernel_rfl) h.tail
  exact ⟨_, er_of_errs (by decide) ha, hT⟩

/-- The witness's world: the list is met there. -/
theorem wit_metH (os : Os) (args : Array Value) : laidMetH Tryd.prog laidLH ((World.laidAll Tryd.prog os laidLH).forCall (fun _ _ => 0) ⟨#[], args, []⟩).memory := by
  rw [MakeChecks.laidMetH_plain _ _ _ (by kernel_rfl)]
  exact laidMet_laidAll _ (by kernel_rfl) (by kernel_rfl)
end Go.Proofs.YtkgflmbhkbeakabDoor
