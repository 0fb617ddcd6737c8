/- From a row's list of laid variables (valuesTypesRow) to what the walks ask of memory; the world of the witness. -/
import Derived.Test.YtlmibpfikafbdaaDoorCards
import Derived.Test.YtlmibpfikafbdaaDoorTie
import Derived.Test.YtlmibpfikafbdaaDoorSc
import Derived.Test.YtlmibpfikafbdaaDoorVx
import Derived.WalkKit
import Derived.ProofKit
import Derived.OpenShut
import Derived.Lib.LaidU8T
import Derived.Lib.LaidTab
import Derived.PinnedBridge
import Derived.Lay
import Derived.LaidMore
import Derived.SevenTiedAt
import Derived.Stop.Joined
import Derived.Deep.DeepHandedRow
import Derived.SizedLaws
namespace Go.Proofs.YtlmibpfikafbdaaDoor
open Go Go.RowKit Go.Lib Go.Shelf Go.ChangeShapes Go.WideShapes Go.ChangeAt
set_option linter.unusedVariables false

/-- The list that the rows bear. -/
def laidLB : List (String × DataW Unit) := Rows.valuesTypesRow.laid
def ixLB : List Nat := [0, 3, 4, 9]
def textOfB : DataW Unit → List UInt8
  | .iface _ (.ptr (.agg [.lit (.string t)])) => t
  | _ => []
def errLB : List (String × List UInt8) := ((laidLB.drop 6).take 4).map fun x => (x.1, textOfB x.2)
def starBN : String := "x"
theorem ownB : ownKnob Tryd.prog.godebug = none := by kernel_rfl
theorem starB : "*" ++ "errors.errorString" = "*errors.errorString" := by decide
theorem rowErrB (u : TypeId) (h : Tryd.prog.typeName? 3 u = some "*errors.errorString") : u = 124 :=
  typeName_ptr_named (nm := "errors.errorString") (by rw [starB]; kernel_rfl) (by kernel_rfl) (by decide) u (by rw [starB]; exact h)
theorem laidLB_len : laidLB.length = 11 := by kernel_rfl
theorem laidLB_eq : ∃ x0 x1 x2 x3 x4 x5, laidLB = x0 :: x1 :: x2 :: x3 :: x4 :: x5 :: (errLB.map mkErr ++ laidLB.drop 10) := ⟨laidLB[0]'(by rw [laidLB_len]; omega), laidLB[1]'(by rw [laidLB_len]; omega), laidLB[2]'(by rw [laidLB_len]; omega), laidLB[3]'(by rw [laidLB_len]; omega), laidLB[4]'(by rw [laidLB_len]; omega), laidLB[5]'(by rw [laidLB_len]; omega), by kernel_rfl⟩
theorem errLB_len : errLB.length = 4 := by kernel_rfl
theorem errLB_gs : (errLB.map fun x => Tryd.prog.globalNamed x.1) = (ixLB.map gE).map some := by kernel_rfl
theorem u8extraB : U8Extra Tryd.prog Tryd.lays197_ren := ⟨by kernel_rfl, by kernel_rfl, by kernel_rfl, by kernel_rfl, by kernel_rfl, by kernel_rfl, by kernel_rfl⟩
theorem u8typesB : U8Types Tryd.prog Tryd.lays197_ren := { Tryd.lays197 with }

theorem std_of_laidB {W : World} (h : laidMetH Tryd.prog laidLB W) : ∃ a, Std ixLB a W := by
  rw [MakeChecks.laidMetH_plain _ _ _ (by kernel_rfl)] at h
  have hT : Utf8Tabs 20 21 W := by
    have e1 : (laidLB[10]?).map (·.2) = some firstData := by rw [← Pinned.utf8First_eq]; kernel_rfl
    have e2 : (laidLB[3]?).map (·.2) = some acceptData := by kernel_rfl
    have mem : ∀ (i : Nat) (n : String) (d : DataW Unit), (laidLB[i]?).map (·.1) = some n → (laidLB[i]?).map (·.2) = some d → (n, d) ∈ laidLB := fun i n d h1 h2 => by
      cases hx : laidLB[i]? with
      | none => rw [hx] at h1; cases h1
      | some x =>
        rw [hx] at h1 h2
        simp only [Option.map_some, Option.some.injEq] at h1 h2
        subst h1; subst h2
        exact List.mem_of_getElem? hx
    exact utf8Tabs_of_readsT u8typesB u8extraB (laidMet.reads h (mem 10 _ _ (by kernel_rfl) e1)) (laidMet.reads h (mem 3 _ _ (by kernel_rfl) e2))
  obtain ⟨x0, x1, x2, x3, x4, x5, hx⟩ := laidLB_eq
  rw [hx] at h
  obtain ⟨a, ha⟩ := errs_of_laid errLB (ixLB.map gE) Tryd.underlying29 rowErrB Tryd.underlying124 Tryd.underlying126 rfl rfl Tryd.underlying9 (by kernel_rfl) (by kernel_rfl) errLB_gs (by kernel_rfl) h.tail.tail.tail.tail.tail.tail
  exact ⟨_, er_of_errs (by decide) ha, hT⟩

def rngLB : List (String × List UInt8) := [((laidLB.getD 4 (starBN, .nil)).1, textOfB (laidLB.getD 4 (starBN, .nil)).2)]
theorem strc_of_laidB {W : World} (h : laidMetH Tryd.prog laidLB W) : Strc W := by
  rw [MakeChecks.laidMetH_plain _ _ _ (by kernel_rfl)] at h
  have h2 : ∃ x0 x1, laidLB = x0 :: x1 :: ("internal/strconv.uint64pow10", tabData .u64 pow10Tab) :: laidLB.drop 3 := ⟨laidLB[0]'(by rw [laidLB_len]; omega), laidLB[1]'(by rw [laidLB_len]; omega), by kernel_rfl⟩
  have h4 : ∃ x0 x1 x2 x3, laidLB = x0 :: x1 :: x2 :: x3 :: (rngLB.map mkErr ++ laidLB.drop 5) := ⟨laidLB[0]'(by rw [laidLB_len]; omega), laidLB[1]'(by rw [laidLB_len]; omega), laidLB[2]'(by rw [laidLB_len]; omega), laidLB[3]'(by rw [laidLB_len]; omega), by kernel_rfl⟩
  refine ⟨?_, ?_⟩
  · obtain ⟨x0, x1, hx⟩ := h2
    rw [hx] at h
    exact tabIs_of_head (g := 22) (t := 113) (e := 79) (n := 20) (by kernel_rfl) (by kernel_rfl) Tryd.underlying113 Tryd.underlying79 (by kernel_rfl) (by kernel_rfl) h.tail.tail
  · obtain ⟨x0, x1, x2, x3, hx⟩ := h4
    rw [hx] at h
    obtain ⟨a, ha⟩ := errs_of_laid rngLB [24] Tryd.underlying29 rowErrB Tryd.underlying124 Tryd.underlying126 rfl rfl Tryd.underlying9 (by kernel_rfl) (by kernel_rfl) (by kernel_rfl) (by kernel_rfl) h.tail.tail.tail.tail
    exact ⟨_, _, ha.cell 0 (by show 0 < 1; omega)⟩

/-- The witness's world: the list is met there. -/
theorem wit_metB (os : Os) (args : Array Value) : laidMetH Tryd.prog laidLB ((World.laidAll Tryd.prog os laidLB).forCall (fun _ _ => 0) ⟨#[], args, []⟩).memory := by
  rw [MakeChecks.laidMetH_plain _ _ _ (by kernel_rfl)]
  exact laidMet_laidAll _ (by kernel_rfl) (by kernel_rfl)
end Go.Proofs.YtlmibpfikafbdaaDoor
