/- From a row's list of laid variables (cellsListUptoRow) to what the walks ask of memory; the world of the witness. -/
import Derived.Test.YthfpmhnnjjikcaaGreatDoorCards
import Derived.Test.YthfpmhnnjjikcaaGreatDoorTie
import Derived.Test.YthfpmhnnjjikcaaGreatDoorSc
import Derived.WalkKit
import Derived.ProofKit
import Derived.OpenShut
import Derived.Lib.LaidU8T
import Derived.Lib.LaidTab
import Derived.PinnedBridge
import Derived.Lay
import Derived.LaidMore
import Derived.SevenTiedAt
import Derived.Stop.Joined
import Derived.Deep.DeepHandedRow
import Derived.SizedLaws
namespace Go.Proofs.YthfpmhnnjjikcaaGreatDoor
open Go Go.RowKit Go.Lib Go.Shelf Go.ChangeShapes Go.WideShapes Go.ChangeAt
set_option linter.unusedVariables false
/-- The list that the rows bear. -/
def laidLKd : List (String × DataW Unit) := Rows.cellsListUptoRow.laid
def ixLKd : List Nat := [0, 1, 2, 3, 4, 5, 6, 7, 8, 9, 10, 11, 12, 13, 14, 15, 16, 17, 18]
def textOfKd : DataW Unit → List UInt8
  | .iface _ (.ptr (.agg [.lit (.string t)])) => t
  | _ => []
def errLKd : List (String × List UInt8) := ((laidLKd.drop 1).take 19).map fun x => (x.1, textOfKd x.2)
theorem ownKd : ownKnob Tryz.prog.godebug = none := by kernel_rfl
theorem starKd : "*" ++ "errors.errorString" = "*errors.errorString" := by decide
theorem rowErrKd (u : TypeId) (h : Tryz.prog.typeName? 3 u = some "*errors.errorString") : u = 248 :=
  typeName_ptr_named (nm := "errors.errorString") (by rw [starKd]; kernel_rfl) (by kernel_rfl) (by decide) u (by rw [starKd]; exact h)
theorem laidLKd_len : laidLKd.length = 21 := by kernel_rfl
theorem laidLKd_eq : ∃ x0, laidLKd = x0 :: (errLKd.map mkErr ++ laidLKd.drop 20) := ⟨laidLKd[0]'(by rw [laidLKd_len]; omega), by kernel_rfl⟩
theorem errLKd_gs : (errLKd.map fun x => Tryz.prog.globalNamed x.1) = (ixLKd.map gE).map some := by kernel_rfl
theorem u8extraKd : U8Extra Tryz.prog Tryz.lays197_ren := ⟨by kernel_rfl, by kernel_rfl, by kernel_rfl, by kernel_rfl, by kernel_rfl, by kernel_rfl, by kernel_rfl⟩
theorem u8typesKd : U8Types Tryz.prog Tryz.lays197_ren := { Tryz.lays197 with }

theorem std_of_laidKd {W : World} (h : laidMetH Tryz.prog laidLKd W) : ∃ a, Std ixLKd a W := by
  rw [MakeChecks.laidMetH_plain _ _ _ (by kernel_rfl)] at h
  have hT : Utf8Tabs 19 20 W := by
    have e1 : (laidLKd[20]?).map (·.2) = some firstData := by rw [← Pinned.utf8First_eq]; kernel_rfl
    have e2 : (laidLKd[0]?).map (·.2) = some acceptData := by kernel_rfl
    have mem : ∀ (i : Nat) (n : String) (d : DataW Unit), (laidLKd[i]?).map (·.1) = some n → (laidLKd[i]?).map (·.2) = some d → (n, d) ∈ laidLKd := fun i n d h1 h2 => by
      cases hx : laidLKd[i]? with
      | none => rw [hx] at h1; cases h1
      | some x =>
        rw [hx] at h1 h2
        simp only [Option.map_some, Option.some.injEq] at h1 h2
        subst h1; subst h2
        exact List.mem_of_getElem? hx
    exact utf8Tabs_of_readsT u8typesKd u8extraKd (laidMet.reads h (mem 20 _ _ (by kernel_rfl) e1)) (laidMet.reads h (mem 0 _ _ (by kernel_rfl) e2))
  obtain ⟨x0, hx⟩ := laidLKd_eq
  rw [hx] at h
  obtain ⟨a, ha⟩ := errs_of_laid errLKd (ixLKd.map gE) Tryz.underlying40 rowErrKd Tryz.underlying248 Tryz.underlying263 rfl rfl Tryz.underlying9 (by kernel_rfl) (by kernel_rfl) errLKd_gs (by kernel_rfl) h.tail
  exact ⟨_, er_of_errs (by decide) ha, hT⟩

/-- The witness's world: the list is met there. -/
theorem wit_metKd (os : Os) (args : Array Value) : laidMetH Tryz.prog laidLKd ((World.laidAll Tryz.prog os laidLKd).forCall (fun _ _ => 0) ⟨#[], args, []⟩).memory := by
  rw [MakeChecks.laidMetH_plain _ _ _ (by kernel_rfl)]
  exact laidMet_laidAll _ (by kernel_rfl) (by kernel_rfl)
end Go.Proofs.YthfpmhnnjjikcaaGreatDoor
