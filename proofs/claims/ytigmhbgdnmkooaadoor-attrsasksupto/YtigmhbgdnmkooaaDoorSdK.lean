/- From a row's list of laid variables (attrsAsksRow) to what the walks ask of memory; the world of the witness. -/
import Derived.Test.YtigmhbgdnmkooaaDoorCards
import Derived.Test.YtigmhbgdnmkooaaDoorTie
import Derived.Test.YtigmhbgdnmkooaaDoorSc
import Derived.WalkKit
import Derived.ProofKit
import Derived.OpenShut
import Derived.Lib.LaidU8T
import Derived.Lib.LaidTab
import Derived.PinnedBridge
import Derived.Lay
import Derived.LaidMore
import Derived.SevenTiedAt
import Derived.Stop.Joined
import Derived.Deep.DeepHandedRow
import Derived.SizedLaws
namespace Go.Proofs.YtigmhbgdnmkooaaDoor
open Go Go.RowKit Go.Lib Go.Shelf Go.ChangeShapes Go.WideShapes Go.ChangeAt
set_option linter.unusedVariables false

/-- The list that the rows bear. -/
def laidLK : List (String × DataW Unit) := Rows.attrsAsksRow.laid
def ixLK : List Nat := [0, 1, 2, 3, 4, 5, 6, 7, 8, 9, 10, 11, 12, 13, 14, 15, 16, 17, 18]
def textOfK : DataW Unit → List UInt8
  | .iface _ (.ptr (.agg [.lit (.string t)])) => t
  | _ => []
def errLK : List (String × List UInt8) := ((laidLK.drop 1).take 19).map fun x => (x.1, textOfK x.2)
theorem ownK : ownKnob Tryd.prog.godebug = none := by kernel_rfl
theorem starK : "*" ++ "errors.errorString" = "*errors.errorString" := by decide
theorem rowErrK (u : TypeId) (h : Tryd.prog.typeName? 3 u = some "*errors.errorString") : u = 122 :=
  typeName_ptr_named (nm := "errors.errorString") (by rw [starK]; kernel_rfl) (by kernel_rfl) (by decide) u (by rw [starK]; exact h)
theorem laidLK_len : laidLK.length = 21 := by kernel_rfl
theorem laidLK_eq : ∃ x0, laidLK = x0 :: (errLK.map mkErr ++ laidLK.drop 20) := ⟨laidLK[0]'(by rw [laidLK_len]; omega), by kernel_rfl⟩
theorem errLK_len : errLK.length = 19 := by kernel_rfl
theorem errLK_gs : (errLK.map fun x => Tryd.prog.globalNamed x.1) = (ixLK.map gE).map some := by kernel_rfl
theorem u8extraK : U8Extra Tryd.prog Tryd.lays197_ren := ⟨by kernel_rfl, by kernel_rfl, by kernel_rfl, by kernel_rfl, by kernel_rfl, by kernel_rfl, by kernel_rfl⟩
theorem u8typesK : U8Types Tryd.prog Tryd.lays197_ren := { Tryd.lays197 with }

theorem std_of_laidK {W : World} (h : laidMetH Tryd.prog laidLK W) : ∃ a, Std ixLK a W := by
  rw [MakeChecks.laidMetH_plain _ _ _ (by kernel_rfl)] at h
  have hT : Utf8Tabs 19 20 W := by
    have e1 : (laidLK[20]?).map (·.2) = some firstData := by rw [← Pinned.utf8First_eq]; kernel_rfl
    have e2 : (laidLK[0]?).map (·.2) = some acceptData := by kernel_rfl
    have mem : ∀ (i : Nat) (n : String) (d : DataW Unit), (laidLK[i]?).map (·.1) = some n → (laidLK[i]?).map (·.2) = some d → (n, d) ∈ laidLK := fun i n d h1 h2 => by
      cases hx : laidLK[i]? with
      | none => rw [hx] at h1; cases h1
      | some x =>
        rw [hx] at h1 h2
        simp only [Option.map_some, Option.some.injEq] at h1 h2
        subst h1; subst h2
        exact List.mem_of_getElem? hx
    exact utf8Tabs_of_readsT u8typesK u8extraK (laidMet.reads h (mem 20 _ _ (by kernel_rfl) e1)) (laidMet.reads h (mem 0 _ _ (by kernel_rfl) e2))
  obtain ⟨x0, hx⟩ := laidLK_eq
  rw [hx] at h
  obtain ⟨a, ha⟩ := errs_of_laid errLK (ixLK.map gE) Tryd.underlying27 rowErrK Tryd.underlying122 Tryd.underlying140 rfl rfl Tryd.underlying9 (by kernel_rfl) (by kernel_rfl) errLK_gs (by kernel_rfl) h.tail
  exact ⟨_, er_of_errs (by decide) ha, hT⟩

/-- The witness's world: the list is met there. -/
theorem wit_metK (os : Os) (args : Array Value) : laidMetH Tryd.prog laidLK ((World.laidAll Tryd.prog os laidLK).forCall (fun _ _ => 0) ⟨#[], args, []⟩).memory := by
  rw [MakeChecks.laidMetH_plain _ _ _ (by kernel_rfl)]
  exact laidMet_laidAll _ (by kernel_rfl) (by kernel_rfl)
end Go.Proofs.YtigmhbgdnmkooaaDoor
