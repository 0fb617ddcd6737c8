/- From a row's list of laid variables (contentAsksRow) to what the walks ask of memory; the world of the witness. -/
import Derived.Test.YtecmdlecfddeeaaDoorCards
import Derived.Test.YtecmdlecfddeeaaDoorTie
import Derived.Test.YtecmdlecfddeeaaDoorSc
import Derived.WalkKit
import Derived.ProofKit
import Derived.OpenShut
import Derived.Lib.LaidU8T
import Derived.Lib.LaidTab
import Derived.PinnedBridge
import Derived.Lay
import Derived.LaidMore
import Derived.SevenTiedAt
import Derived.Stop.Joined
import Derived.Deep.DeepHandedRow
import Derived.SizedLaws
namespace Go.Proofs.YtecmdlecfddeeaaDoor
open Go Go.RowKit Go.Lib Go.Shelf Go.ChangeShapes Go.WideShapes Go.ChangeAt
set_option linter.unusedVariables false

/-- The list that the rows bear. -/
def laidLD : List (String × DataW Unit) := Rows.contentAsksRow.laid
def ixLD : List Nat := [0, 1, 2, 3, 4, 5, 6, 7, 8, 9, 10, 11, 12, 13, 14, 15, 16, 17, 18]
def textOfD : DataW Unit → List UInt8
  | .iface _ (.ptr (.agg [.lit (.string t)])) => t
  | _ => []
def errLD : List (String × List UInt8) := ((laidLD.drop 1).take 19).map fun x => (x.1, textOfD x.2)
theorem ownD : ownKnob Tryd.prog.godebug = none := by kernel_rfl
theorem starD : "*" ++ "errors.errorString" = "*errors.errorString" := by decide
theorem rowErrD (u : TypeId) (h : Tryd.prog.typeName? 3 u = some "*errors.errorString") : u = 143 :=
  typeName_ptr_named (nm := "errors.errorString") (by rw [starD]; kernel_rfl) (by kernel_rfl) (by decide) u (by rw [starD]; exact h)
theorem laidLD_len : laidLD.length = 21 := by kernel_rfl
theorem laidLD_eq : ∃ x0, laidLD = x0 :: (errLD.map mkErr ++ laidLD.drop 20) := ⟨laidLD[0]'(by rw [laidLD_len]; omega), by kernel_rfl⟩
theorem errLD_len : errLD.length = 19 := by kernel_rfl
theorem errLD_gs : (errLD.map fun x => Tryd.prog.globalNamed x.1) = (ixLD.map gE).map some := by kernel_rfl
theorem u8extraD : U8Extra Tryd.prog Tryd.lays197_ren := ⟨by kernel_rfl, by kernel_rfl, by kernel_rfl, by kernel_rfl, by kernel_rfl, by kernel_rfl, by kernel_rfl⟩
theorem u8typesD : U8Types Tryd.prog Tryd.lays197_ren := { Tryd.lays197 with }

theorem std_of_laidD {W : World} (h : laidMetH Tryd.prog laidLD W) : ∃ a, Std ixLD a W := by
  rw [MakeChecks.laidMetH_plain _ _ _ (by kernel_rfl)] at h
  have hT : Utf8Tabs 20 21 W := by
    have e1 : (laidLD[20]?).map (·.2) = some firstData := by rw [← Pinned.utf8First_eq]; kernel_rfl
    have e2 : (laidLD[0]?).map (·.2) = some acceptData := by kernel_rfl
    have mem : ∀ (i : Nat) (n : String) (d : DataW Unit), (laidLD[i]?).map (·.1) = some n → (laidLD[i]?).map (·.2) = some d → (n, d) ∈ laidLD := fun i n d h1 h2 => by
      cases hx : laidLD[i]? with
      | none => rw [hx] at h1; cases h1
      | some x =>
        rw [hx] at h1 h2
        simp only [Option.map_some, Option.some.injEq] at h1 h2
        subst h1; subst h2
        exact List.mem_of_getElem? hx
    exact utf8Tabs_of_readsT u8typesD u8extraD (laidMet.reads h (mem 20 _ _ (by kernel_rfl) e1)) (laidMet.reads h (mem 0 _ _ (by kernel_rfl) e2))
  obtain ⟨x0, hx⟩ := laidLD_eq
  rw [hx] at h
  obtain ⟨a, ha⟩ := errs_of_laid errLD (ixLD.map gE) Tryd.underlying32 rowErrD Tryd.underlying143 Tryd.underlying159 rfl rfl Tryd.underlying9 (by kernel_rfl) (by kernel_rfl) errLD_gs (by kernel_rfl) h.tail
  exact ⟨_, er_of_errs (by decide) ha, hT⟩

/-- The witness's world: the list is met there. -/
theorem wit_metD (os : Os) (args : Array Value) : laidMetH Tryd.prog laidLD ((World.laidAll Tryd.prog os laidLD).forCall (fun _ _ => 0) ⟨#[], args, []⟩).memory := by
  rw [MakeChecks.laidMetH_plain _ _ _ (by kernel_rfl)]
  exact laidMet_laidAll _ (by kernel_rfl) (by kernel_rfl)
end Go.Proofs.YtecmdlecfddeeaaDoor
