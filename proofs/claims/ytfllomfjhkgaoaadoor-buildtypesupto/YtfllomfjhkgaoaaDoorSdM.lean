/- From a row's list of laid variables (buildPiecesRow) to what the walks ask of memory; the world of the witness. -/
import Derived.Test.YtfllomfjhkgaoaaDoorCards
import Derived.Test.YtfllomfjhkgaoaaDoorTie
import Derived.Test.YtfllomfjhkgaoaaDoorSc
import Derived.WalkKit
import Derived.ProofKit
import Derived.OpenShut
import Derived.Lib.LaidU8T
import Derived.Lib.LaidTab
import Derived.PinnedBridge
import Derived.Lay
import Derived.LaidMore
import Derived.SevenTiedAt
import Derived.Stop.Joined
import Derived.Deep.DeepHandedRow
import Derived.SizedLaws
namespace Go.Proofs.YtfllomfjhkgaoaaDoor
open Go Go.RowKit Go.Lib Go.Shelf Go.ChangeShapes Go.WideShapes Go.ChangeAt
set_option linter.unusedVariables false

/-- The list that the rows bear. -/
def laidLM : List (String × DataW Unit) := Rows.buildPiecesRow.laid
def ixLM : List Nat := [0, 4, 5, 6, 7, 8, 9, 10]
def textOfM : DataW Unit → List UInt8
  | .iface _ (.ptr (.agg [.lit (.string t)])) => t
  | _ => []
def errLM : List (String × List UInt8) := ((laidLM.drop 1).take 8).map fun x => (x.1, textOfM x.2)
theorem ownM : ownKnob Tryd.prog.godebug = none := by kernel_rfl
theorem starM : "*" ++ "errors.errorString" = "*errors.errorString" := by decide
theorem rowErrM (u : TypeId) (h : Tryd.prog.typeName? 3 u = some "*errors.errorString") : u = 141 :=
  typeName_ptr_named (nm := "errors.errorString") (by rw [starM]; kernel_rfl) (by kernel_rfl) (by decide) u (by rw [starM]; exact h)
theorem laidLM_len : laidLM.length = 10 := by kernel_rfl
theorem laidLM_eq : ∃ x0, laidLM = x0 :: (errLM.map mkErr ++ laidLM.drop 9) := ⟨laidLM[0]'(by rw [laidLM_len]; omega), by kernel_rfl⟩
theorem errLM_len : errLM.length = 8 := by kernel_rfl
theorem errLM_gs : (errLM.map fun x => Tryd.prog.globalNamed x.1) = (ixLM.map gE).map some := by kernel_rfl
theorem u8extraM : U8Extra Tryd.prog Tryd.lays197_ren := ⟨by kernel_rfl, by kernel_rfl, by kernel_rfl, by kernel_rfl, by kernel_rfl, by kernel_rfl, by kernel_rfl⟩
theorem u8typesM : U8Types Tryd.prog Tryd.lays197_ren := { Tryd.lays197 with }

theorem std_of_laidM {W : World} (h : laidMetH Tryd.prog laidLM W) : ∃ a, Std ixLM a W := by
  rw [MakeChecks.laidMetH_plain _ _ _ (by kernel_rfl)] at h
  have hT : Utf8Tabs 8 9 W := by
    have e1 : (laidLM[9]?).map (·.2) = some firstData := by rw [← Pinned.utf8First_eq]; kernel_rfl
    have e2 : (laidLM[0]?).map (·.2) = some acceptData := by kernel_rfl
    have mem : ∀ (i : Nat) (n : String) (d : DataW Unit), (laidLM[i]?).map (·.1) = some n → (laidLM[i]?).map (·.2) = some d → (n, d) ∈ laidLM := fun i n d h1 h2 => by
      cases hx : laidLM[i]? with
      | none => rw [hx] at h1; cases h1
      | some x =>
        rw [hx] at h1 h2
        simp only [Option.map_some, Option.some.injEq] at h1 h2
        subst h1; subst h2
        exact List.mem_of_getElem? hx
    exact utf8Tabs_of_readsT u8typesM u8extraM (laidMet.reads h (mem 9 _ _ (by kernel_rfl) e1)) (laidMet.reads h (mem 0 _ _ (by kernel_rfl) e2))
  obtain ⟨x0, hx⟩ := laidLM_eq
  rw [hx] at h
  obtain ⟨a, ha⟩ := errs_of_laid errLM (ixLM.map gE) Tryd.underlying67 rowErrM Tryd.underlying141 Tryd.underlying156 rfl rfl Tryd.underlying9 (by kernel_rfl) (by kernel_rfl) errLM_gs (by kernel_rfl) h.tail
  exact ⟨_, er_of_errs (by decide) ha, hT⟩

/-- The witness's world: the list is met there. -/
theorem wit_metM (os : Os) (args : Array Value) : laidMetH Tryd.prog laidLM ((World.laidAll Tryd.prog os laidLM).forCall (fun _ _ => 0) ⟨#[], args, []⟩).memory := by
  rw [MakeChecks.laidMetH_plain _ _ _ (by kernel_rfl)]
  exact laidMet_laidAll _ (by kernel_rfl) (by kernel_rfl)
end Go.Proofs.YtfllomfjhkgaoaaDoor
