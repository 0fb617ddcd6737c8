/- From a row's list of laid variables (opsTypesRow) to what the walks ask of memory; the world of the witness. -/
import Derived.Test.YtkgflmbhkbeakaaDoorCards
import Derived.Test.YtkgflmbhkbeakaaDoorTie
import Derived.Test.YtkgflmbhkbeakaaDoorSc
import Derived.WalkKit
import Derived.ProofKit
import Derived.OpenShut
import Derived.Lib.LaidU8T
import Derived.Lib.LaidTab
import Derived.PinnedBridge
import Derived.Lay
import Derived.LaidMore
import Derived.SevenTiedAt
import Derived.Stop.Joined
import Derived.Deep.DeepHandedRow
import Derived.SizedLaws
namespace Go.Proofs.YtkgflmbhkbeakaaDoor
open Go Go.RowKit Go.Lib Go.Shelf Go.ChangeShapes Go.WideShapes Go.ChangeAt
set_option linter.unusedVariables false

/-- The list that the rows bear. -/
def laidLF : List (String × DataW Unit) := Rows.opsTypesRow.laid
def ixLF : List Nat := [0, 4, 5, 6, 7, 8, 9, 10]
def textOfF : DataW Unit → List UInt8
  | .iface _ (.ptr (.agg [.lit (.string t)])) => t
  | _ => []
def errLF : List (String × List UInt8) := ((laidLF.drop 1).take 8).map fun x => (x.1, textOfF x.2)
theorem ownF : ownKnob Tryd.prog.godebug = none := by kernel_rfl
theorem starF : "*" ++ "errors.errorString" = "*errors.errorString" := by decide
theorem rowErrF (u : TypeId) (h : Tryd.prog.typeName? 3 u = some "*errors.errorString") : u = 175 :=
  typeName_ptr_named (nm := "errors.errorString") (by rw [starF]; kernel_rfl) (by kernel_rfl) (by decide) u (by rw [starF]; exact h)
theorem laidLF_len : laidLF.length = 10 := by kernel_rfl
theorem laidLF_eq : ∃ x0, laidLF = x0 :: (errLF.map mkErr ++ laidLF.drop 9) := ⟨laidLF[0]'(by rw [laidLF_len]; omega), by kernel_rfl⟩
theorem errLF_len : errLF.length = 8 := by kernel_rfl
theorem errLF_gs : (errLF.map fun x => Tryd.prog.globalNamed x.1) = (ixLF.map gE).map some := by kernel_rfl
theorem u8extraF : U8Extra Tryd.prog Tryd.lays197_ren := ⟨by kernel_rfl, by kernel_rfl, by kernel_rfl, by kernel_rfl, by kernel_rfl, by kernel_rfl, by kernel_rfl⟩
theorem u8typesF : U8Types Tryd.prog Tryd.lays197_ren := { Tryd.lays197 with }

theorem std_of_laidF {W : World} (h : laidMetH Tryd.prog laidLF W) : ∃ a, Std ixLF a W := by
  rw [MakeChecks.laidMetH_plain _ _ _ (by kernel_rfl)] at h
  have hT : Utf8Tabs 19 20 W := by
    have e1 : (laidLF[9]?).map (·.2) = some firstData := by rw [← Pinned.utf8First_eq]; kernel_rfl
    have e2 : (laidLF[0]?).map (·.2) = some acceptData := by kernel_rfl
    have mem : ∀ (i : Nat) (n : String) (d : DataW Unit), (laidLF[i]?).map (·.1) = some n → (laidLF[i]?).map (·.2) = some d → (n, d) ∈ laidLF := fun i n d h1 h2 => by
      cases hx : laidLF[i]? with
      | none => rw [hx] at h1; cases h1
      | some x =>
        rw [hx] at h1 h2
        simp only [Option.map_some, Option.some.injEq] at h1 h2
        subst h1; subst h2
        exact List.mem_of_getElem? hx
    exact utf8Tabs_of_readsT u8typesF u8extraF (laidMet.reads h (mem 9 _ _ (by kernel_rfl) e1)) (laidMet.reads h (mem 0 _ _ (by kernel_rfl) e2))
  obtain ⟨x0, hx⟩ := laidLF_eq
  rw [hx] at h
  obtain ⟨a, ha⟩ := errs_of_laid errLF (ixLF.map gE) Tryd.underlying27 rowErrF Tryd.underlying175 Tryd.underlying191 rfl rfl Tryd.underlying9 (by kernel_rfl) (by kernel_rfl) errLF_gs (by kernel_rfl) h.tail
  exact ⟨_, er_of_errs (by decide) ha, hT⟩

/-- The witness's world: the list is met there. -/
theorem wit_metF (os : Os) (args : Array Value) : laidMetH Tryd.prog laidLF ((World.laidAll Tryd.prog os laidLF).forCall (fun _ _ => 0) ⟨#[], args, []⟩).memory := by
  rw [MakeChecks.laidMetH_plain _ _ _ (by kernel_rfl)]
  exact laidMet_laidAll _ (by kernel_rfl) (by kernel_rfl)
end Go.Proofs.YtkgflmbhkbeakaaDoor
