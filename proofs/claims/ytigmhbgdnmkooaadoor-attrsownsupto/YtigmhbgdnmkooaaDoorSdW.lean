/- From a row's list of laid variables (attrsOwnsRow) to what the walks ask of memory; the world of the witness. -/
import Derived.Test.YtigmhbgdnmkooaaDoorCards
import Derived.Test.YtigmhbgdnmkooaaDoorTie
import Derived.Test.YtigmhbgdnmkooaaDoorSc
import Derived.WalkKit
import Derived.ProofKit
import Derived.OpenShut
import Derived.Lib.LaidU8T
import Derived.Lib.LaidTab
import Derived.PinnedBridge
import Derived.Lay
import Derived.LaidMore
import Derived.SevenTiedAt
import Derived.Stop.Joined
import Derived.Deep.DeepHandedRow
import Derived.SizedLaws
namespace Go.Proofs.YtigmhbgdnmkooaaDoor
open Go Go.RowKit Go.Lib Go.Shelf Go.ChangeShapes Go.WideShapes Go.ChangeAt
set_option linter.unusedVariables false

/-- The list that the rows bear. -/
def laidLW : List (String × DataW Unit) := Rows.attrsOwnsRow.laid
def ixLW : List Nat := [0, 4, 5, 6, 7, 9]
def textOfW : DataW Unit → List UInt8
  | .iface _ (.ptr (.agg [.lit (.string t)])) => t
  | _ => []
def errLW : List (String × List UInt8) := ((laidLW.drop 1).take 6).map fun x => (x.1, textOfW x.2)
theorem ownW : ownKnob Tryd.prog.godebug = none := by kernel_rfl
theorem starW : "*" ++ "errors.errorString" = "*errors.errorString" := by decide
theorem rowErrW (u : TypeId) (h : Tryd.prog.typeName? 3 u = some "*errors.errorString") : u = 122 :=
  typeName_ptr_named (nm := "errors.errorString") (by rw [starW]; kernel_rfl) (by kernel_rfl) (by decide) u (by rw [starW]; exact h)
theorem laidLW_len : laidLW.length = 8 := by kernel_rfl
theorem laidLW_eq : ∃ x0, laidLW = x0 :: (errLW.map mkErr ++ laidLW.drop 7) := ⟨laidLW[0]'(by rw [laidLW_len]; omega), by kernel_rfl⟩
theorem errLW_len : errLW.length = 6 := by kernel_rfl
theorem errLW_gs : (errLW.map fun x => Tryd.prog.globalNamed x.1) = (ixLW.map gE).map some := by kernel_rfl
theorem u8extraW : U8Extra Tryd.prog Tryd.lays197_ren := ⟨by kernel_rfl, by kernel_rfl, by kernel_rfl, by kernel_rfl, by kernel_rfl, by kernel_rfl, by kernel_rfl⟩
theorem u8typesW : U8Types Tryd.prog Tryd.lays197_ren := { Tryd.lays197 with }

theorem std_of_laidW {W : World} (h : laidMetH Tryd.prog laidLW W) : ∃ a, Std ixLW a W := by
  rw [MakeChecks.laidMetH_plain _ _ _ (by kernel_rfl)] at h
  have hT : Utf8Tabs 19 20 W := by
    have e1 : (laidLW[7]?).map (·.2) = some firstData := by rw [← Pinned.utf8First_eq]; kernel_rfl
    have e2 : (laidLW[0]?).map (·.2) = some acceptData := by kernel_rfl
    have mem : ∀ (i : Nat) (n : String) (d : DataW Unit), (laidLW[i]?).map (·.1) = some n → (laidLW[i]?).map (·.2) = some d → (n, d) ∈ laidLW := fun i n d h1 h2 => by
      cases hx : laidLW[i]? with
      | none => rw [hx] at h1; cases h1
      | some x =>
        rw [hx] at h1 h2
        simp only [Option.map_some, Option.some.injEq] at h1 h2
        subst h1; subst h2
        exact List.mem_of_getElem? hx
    exact utf8Tabs_of_readsT u8typesW u8extraW (laidMet.reads h (mem 7 _ _ (by kernel_rfl) e1)) (laidMet.reads h (mem 0 _ _ (by kernel_rfl) e2))
  obtain ⟨x0, hx⟩ := laidLW_eq
  rw [hx] at h
  obtain ⟨a, ha⟩ := errs_of_laid errLW (ixLW.map gE) Tryd.underlying27 rowErrW Tryd.underlying122 Tryd.underlying140 rfl rfl Tryd.underlying9 (by kernel_rfl) (by kernel_rfl) errLW_gs (by kernel_rfl) h.tail
  exact ⟨_, er_of_errs (by decide) ha, hT⟩

/-- The witness's world: the list is met there. -/
theorem wit_metW (os : Os) (args : Array Value) : laidMetH Tryd.prog laidLW ((World.laidAll Tryd.prog os laidLW).forCall (fun _ _ => 0) ⟨#[], args, []⟩).memory := by
  rw [MakeChecks.laidMetH_plain _ _ _ (by kernel_rfl)]
  exact laidMet_laidAll _ (by kernel_rfl) (by kernel_rfl)
end Go.Proofs.YtigmhbgdnmkooaaDoor
