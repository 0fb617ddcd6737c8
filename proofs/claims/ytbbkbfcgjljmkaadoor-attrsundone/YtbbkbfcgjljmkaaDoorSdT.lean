/- From a row's list of laid variables (attrsBothRow) to what the walks ask of memory; the world of the witness. -/
import Derived.Test.YtbbkbfcgjljmkaaDoorCards
import Derived.Test.YtbbkbfcgjljmkaaDoorTie
import Derived.Test.YtbbkbfcgjljmkaaDoorSc
import Derived.WalkKit
import Derived.ProofKit
import Derived.OpenShut
import Derived.Lib.LaidU8T
import Derived.Lib.LaidTab
import Derived.PinnedBridge
import Derived.Lay
import Derived.LaidMore
import Derived.SevenTiedAt
import Derived.Stop.Joined
import Derived.Deep.DeepHandedRow
import Derived.SizedLaws
namespace Go.Proofs.YtbbkbfcgjljmkaaDoor
open Go Go.RowKit Go.Lib Go.Shelf Go.ChangeShapes Go.WideShapes Go.ChangeAt
set_option linter.unusedVariables false

/-- The list that the rows bear. -/
def laidLT : List (String × DataW Unit) := Rows.attrsBothRow.laid
def ixLT : List Nat := [0, 4, 5, 6, 7, 9]
def textOfT : DataW Unit → List UInt8
  | .iface _ (.ptr (.agg [.lit (.string t)])) => t
  | _ => []
def errLT : List (String × List UInt8) := ((laidLT.drop 1).take 6).map fun x => (x.1, textOfT x.2)
theorem ownT : ownKnob Tryd.prog.godebug = none := by kernel_rfl
theorem starT : "*" ++ "errors.errorString" = "*errors.errorString" := by decide
theorem rowErrT (u : TypeId) (h : Tryd.prog.typeName? 3 u = some "*errors.errorString") : u = 123 :=
  typeName_ptr_named (nm := "errors.errorString") (by rw [starT]; kernel_rfl) (by kernel_rfl) (by decide) u (by rw [starT]; exact h)
theorem laidLT_len : laidLT.length = 8 := by kernel_rfl
theorem laidLT_eq : ∃ x0, laidLT = x0 :: (errLT.map mkErr ++ laidLT.drop 7) := ⟨laidLT[0]'(by rw [laidLT_len]; omega), by kernel_rfl⟩
theorem errLT_len : errLT.length = 6 := by kernel_rfl
theorem errLT_gs : (errLT.map fun x => Tryd.prog.globalNamed x.1) = (ixLT.map gE).map some := by kernel_rfl
theorem u8extraT : U8Extra Tryd.prog Tryd.lays197_ren := ⟨by kernel_rfl, by kernel_rfl, by kernel_rfl, by kernel_rfl, by kernel_rfl, by kernel_rfl, by kernel_rfl⟩
theorem u8typesT : U8Types Tryd.prog Tryd.lays197_ren := { Tryd.lays197 with }

theorem std_of_laidT {W : World} (h : laidMetH Tryd.prog laidLT W) : ∃ a, Std ixLT a W := by
  rw [MakeChecks.laidMetH_plain _ _ _ (by kernel_rfl)] at h
  have hT : Utf8Tabs 19 20 W := by
    have e1 : (laidLT[7]?).map (·.2) = some firstData := by rw [← Pinned.utf8First_eq]; kernel_rfl
    have e2 : (laidLT[0]?).map (·.2) = some acceptData := by kernel_rfl
    have mem : ∀ (i : Nat) (n : String) (d : DataW Unit), (laidLT[i]?).map (·.1) = some n → (laidLT[i]?).map (·.2) = some d → (n, d) ∈ laidLT := fun i n d h1 h2 => by
      cases hx : laidLT[i]? with
      | none => rw [hx] at h1; cases h1
      | some x =>
        rw [hx] at h1 h2
        simp only [Option.map_some, Option.some.injEq] at h1 h2
        subst h1; subst h2
        exact List.mem_of_getElem? hx
    exact utf8Tabs_of_readsT u8typesT u8extraT (laidMet.reads h (mem 7 _ _ (by kernel_rfl) e1)) (laidMet.reads h (mem 0 _ _ (by kernel_rfl) e2))
  obtain ⟨x0, hx⟩ := laidLT_eq
  rw [hx] at h
  obtain ⟨a, ha⟩ := errs_of_laid errLT (ixLT.map gE) Tryd.underlying27 rowErrT Tryd.underlying123 Tryd.underlying141 rfl rfl Tryd.underlying9 (by kernel_rfl) (by kernel_rfl) errLT_gs (by kernel_rfl) h.tail
  exact ⟨_, er_of_errs (by decide) ha, hT⟩

/-- The witness's world: the list is met there. -/
theorem wit_metT (os : Os) (args : Array Value) : laidMetH Tryd.prog laidLT ((World.laidAll Tryd.prog os laidLT).forCall (fun _ _ => 0) ⟨#[], args, []⟩).memory := by
  rw [MakeChecks.laidMetH_plain _ _ _ (by kernel_rfl)]
  exact laidMet_laidAll _ (by kernel_rfl) (by kernel_rfl)
end Go.Proofs.YtbbkbfcgjljmkaaDoor
