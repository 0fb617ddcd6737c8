/- From a row's list of laid variables (applyPlaysRow) to what the walks ask of memory; the world of the witness. -/
import Derived.Test.YtplnojapnaaakaaGreatDoorCards
import Derived.Test.YtplnojapnaaakaaGreatDoorTie
import Derived.Test.YtplnojapnaaakaaGreatDoorPSc
import Derived.WalkKit
import Derived.ProofKit
import Derived.OpenShut
import Derived.Lib.LaidU8T
import Derived.Lib.LaidTab
import Derived.PinnedBridge
import Derived.Lay
import Derived.LaidMore
import Derived.SevenTiedAt
import Derived.Stop.Joined
import Derived.Deep.DeepHandedRow
import Derived.SizedLaws
namespace Go.Proofs.YtplnojapnaaakaaGreatDoor
open Go Go.RowKit Go.Lib Go.Shelf Go.ChangeShapes Go.WideShapes Go.ChangeAt
set_option linter.unusedVariables false
/-- The list that the rows bear. -/
def laidLN : List (String × DataW Unit) := Rows.applyPlaysRow.laid
def ixLN : List Nat := [0, 1, 2, 3, 4, 5, 6, 7, 8, 9, 10, 11, 12, 13, 14, 15, 16, 17, 18]
def textOfN : DataW Unit → List UInt8
  | .iface _ (.ptr (.agg [.lit (.string t)])) => t
  | _ => []
def errLN : List (String × List UInt8) := ((laidLN.drop 1).take 19).map fun x => (x.1, textOfN x.2)
theorem ownN : ownKnob Tryz.prog.godebug = none := by kernel_rfl
theorem starN : "*" ++ "errors.errorString" = "*errors.errorString" := by decide
theorem rowErrN (u : TypeId) (h : Tryz.prog.typeName? 3 u = some "*errors.errorString") : u = 241 :=
  typeName_ptr_named (nm := "errors.errorString") (by rw [starN]; kernel_rfl) (by kernel_rfl) (by decide) u (by rw [starN]; exact h)
theorem laidLN_len : laidLN.length = 21 := by kernel_rfl
theorem laidLN_eq : ∃ x0, laidLN = x0 :: (errLN.map mkErr ++ laidLN.drop 20) := ⟨laidLN[0]'(by rw [laidLN_len]; omega), by kernel_rfl⟩
theorem errLN_gs : (errLN.map fun x => Tryz.prog.globalNamed x.1) = (ixLN.map gE).map some := by kernel_rfl
theorem u8extraN : U8Extra Tryz.prog Tryz.lays197_ren := ⟨by kernel_rfl, by kernel_rfl, by kernel_rfl, by kernel_rfl, by kernel_rfl, by kernel_rfl, by kernel_rfl⟩
theorem u8typesN : U8Types Tryz.prog Tryz.lays197_ren := { Tryz.lays197 with }

theorem std_of_laidN {W : World} (h : laidMetH Tryz.prog laidLN W) : ∃ a, Std ixLN a W := by
  rw [MakeChecks.laidMetH_plain _ _ _ (by kernel_rfl)] at h
  have hT : Utf8Tabs 19 20 W := by
    have e1 : (laidLN[20]?).map (·.2) = some firstData := by rw [← Pinned.utf8First_eq]; kernel_rfl
    have e2 : (laidLN[0]?).map (·.2) = some acceptData := by kernel_rfl
    have mem : ∀ (i : Nat) (n : String) (d : DataW Unit), (laidLN[i]?).map (·.1) = some n → (laidLN[i]?).map (·.2) = some d → (n, d) ∈ laidLN := fun i n d h1 h2 => by
      cases hx : laidLN[i]? with
      | none => rw [hx] at h1; cases h1
      | some x =>
        rw [hx] at h1 h2
        simp only [Option.map_some, Option.some.injEq] at h1 h2
        subst h1; subst h2
        exact List.mem_of_getElem? hx
    exact utf8Tabs_of_readsT u8typesN u8extraN (laidMet.reads h (mem 20 _ _ (by kernel_rfl) e1)) (laidMet.reads h (mem 0 _ _ (by kernel_rfl) e2))
  obtain ⟨x0, hx⟩ := laidLN_eq
  rw [hx] at h
  obtain ⟨a, ha⟩ := errs_of_laid errLN (ixLN.map gE) Tryz.underlying40 rowErrN Tryz.underlying241 Tryz.underlying257 rfl rfl Tryz.underlying9 (by kernel_rfl) (by kernel_rfl) errLN_gs (by kernel_rfl) h.tail
  exact ⟨_, er_of_errs (by decide) ha, hT⟩

/-- The witness's world: the list is met there. -/
theorem wit_metN (os : Os) (args : Array Value) : laidMetH Tryz.prog laidLN ((World.laidAll Tryz.prog os laidLN).forCall (fun _ _ => 0) ⟨#[], args, []⟩).memory := by
  rw [MakeChecks.laidMetH_plain _ _ _ (by kernel_rfl)]
  exact laidMet_laidAll _ (by kernel_rfl) (by kernel_rfl)
end Go.Proofs.YtplnojapnaaakaaGreatDoor
