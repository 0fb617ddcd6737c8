/- From a row's list of laid variables (contentThreeRow) to what the walks ask of memory; the world of the witness. -/
import Derived.Test.YtecmdlecfddeeaaDoorCards
import Derived.Test.YtecmdlecfddeeaaDoorTie
import Derived.Test.YtecmdlecfddeeaaDoorSc
import Derived.WalkKit
import Derived.ProofKit
import Derived.OpenShut
import Derived.Lib.LaidU8T
import Derived.Lib.LaidTab
import Derived.PinnedBridge
import Derived.Lay
import Derived.LaidMore
import Derived.SevenTiedAt
import Derived.Stop.Joined
import Derived.Deep.DeepHandedRow
import Derived.SizedLaws
namespace Go.Proofs.YtecmdlecfddeeaaDoor
open Go Go.RowKit Go.Lib Go.Shelf Go.ChangeShapes Go.WideShapes Go.ChangeAt
set_option linter.unusedVariables false

/-- The list that the rows bear. -/
def laidLC : List (String × DataW Unit) := Rows.contentThreeRow.laid
def ixLC : List Nat := [0, 4, 5, 6, 7, 8, 9, 11]
def textOfC : DataW Unit → List UInt8
  | .iface _ (.ptr (.agg [.lit (.string t)])) => t
  | _ => []
def errLC : List (String × List UInt8) := ((laidLC.drop 1).take 8).map fun x => (x.1, textOfC x.2)
theorem ownC : ownKnob Tryd.prog.godebug = none := by kernel_rfl
theorem starC : "*" ++ "errors.errorString" = "*errors.errorString" := by decide
theorem rowErrC (u : TypeId) (h : Tryd.prog.typeName? 3 u = some "*errors.errorString") : u = 143 :=
  typeName_ptr_named (nm := "errors.errorString") (by rw [starC]; kernel_rfl) (by kernel_rfl) (by decide) u (by rw [starC]; exact h)
theorem laidLC_len : laidLC.length = 10 := by kernel_rfl
theorem laidLC_eq : ∃ x0, laidLC = x0 :: (errLC.map mkErr ++ laidLC.drop 9) := ⟨laidLC[0]'(by rw [laidLC_len]; omega), by kernel_rfl⟩
theorem errLC_len : errLC.length = 8 := by kernel_rfl
theorem errLC_gs : (errLC.map fun x => Tryd.prog.globalNamed x.1) = (ixLC.map gE).map some := by kernel_rfl
theorem u8extraC : U8Extra Tryd.prog Tryd.lays197_ren := ⟨by kernel_rfl, by kernel_rfl, by kernel_rfl, by kernel_rfl, by kernel_rfl, by kernel_rfl, by kernel_rfl⟩
theorem u8typesC : U8Types Tryd.prog Tryd.lays197_ren := { Tryd.lays197 with }

theorem std_of_laidC {W : World} (h : laidMetH Tryd.prog laidLC W) : ∃ a, Std ixLC a W := by
  rw [MakeChecks.laidMetH_plain _ _ _ (by kernel_rfl)] at h
  have hT : Utf8Tabs 20 21 W := by
    have e1 : (laidLC[9]?).map (·.2) = some firstData := by rw [← Pinned.utf8First_eq]; kernel_rfl
    have e2 : (laidLC[0]?).map (·.2) = some acceptData := by kernel_rfl
    have mem : ∀ (i : Nat) (n : String) (d : DataW Unit), (laidLC[i]?).map (·.1) = some n → (laidLC[i]?).map (·.2) = some d → (n, d) ∈ laidLC := fun i n d h1 h2 => by
      cases hx : laidLC[i]? with
      | none => rw [hx] at h1; cases h1
      | some x =>
        rw [hx] at h1 h2
        simp only [Option.map_some, Option.some.injEq] at h1 h2
        subst h1; subst h2
        exact List.mem_of_getElem? hx
    exact utf8Tabs_of_readsT u8typesC u8extraC (laidMet.reads h (mem 9 _ _ (by kernel_rfl) e1)) (laidMet.reads h (mem 0 _ _ (by kernel_rfl) e2))
  obtain ⟨x0, hx⟩ := laidLC_eq
  rw [hx] at h
  obtain ⟨a, ha⟩ := errs_of_laid errLC (ixLC.map gE) Tryd.underlying32 rowErrC Tryd.underlying143 Tryd.underlying159 rfl rfl Tryd.underlying9 (by kernel_rfl) (by kernel_rfl) errLC_gs (by kernel_rfl) h.tail
  exact ⟨_, er_of_errs (by decide) ha, hT⟩

/-- The witness's world: the list is met there. -/
theorem wit_metC (os : Os) (args : Array Value) : laidMetH Tryd.prog laidLC ((World.laidAll Tryd.prog os laidLC).forCall (fun _ _ => 0) ⟨#[], args, []⟩).memory := by
  rw [MakeChecks.laidMetH_plain _ _ _ (by kernel_rfl)]
  exact laidMet_laidAll _ (by kernel_rfl) (by kernel_rfl)
end Go.Proofs.YtecmdlecfddeeaaDoor
