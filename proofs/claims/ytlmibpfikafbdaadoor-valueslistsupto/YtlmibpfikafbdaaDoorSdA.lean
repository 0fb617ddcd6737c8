/- From a row's list of laid variables (valuesPlaysRow) to what the walks ask of memory; the world of the witness. -/
import Derived.Test.YtlmibpfikafbdaaDoorCards
import Derived.Test.YtlmibpfikafbdaaDoorTie
import Derived.Test.YtlmibpfikafbdaaDoorSc
import Derived.Test.YtlmibpfikafbdaaDoorVx
import Derived.WalkKit
import Derived.ProofKit
import Derived.OpenShut
import Derived.Lib.LaidU8T
import Derived.Lib.LaidTab
import Derived.PinnedBridge
import Derived.Lay
import Derived.LaidMore
import Derived.SevenTiedAt
import Derived.Stop.Joined
import Derived.Deep.DeepHandedRow
import Derived.SizedLaws
namespace Go.Proofs.YtlmibpfikafbdaaDoor
open Go Go.RowKit Go.Lib Go.Shelf Go.ChangeShapes Go.WideShapes Go.ChangeAt
set_option linter.unusedVariables false

/-- The list that the rows bear. -/
def laidLA : List (String × DataW Unit) := Rows.valuesPlaysRow.laid
def ixLA : List Nat := [0, 1, 2, 3, 4, 5, 6, 7, 8, 9, 10, 11, 12, 13, 14, 15, 16, 17, 18]
def textOfA : DataW Unit → List UInt8
  | .iface _ (.ptr (.agg [.lit (.string t)])) => t
  | _ => []
def errLA : List (String × List UInt8) := ((laidLA.drop 6).take 19).map fun x => (x.1, textOfA x.2)
def starAN : String := "x"
theorem ownA : ownKnob Tryd.prog.godebug = none := by kernel_rfl
theorem starA : "*" ++ "errors.errorString" = "*errors.errorString" := by decide
theorem rowErrA (u : TypeId) (h : Tryd.prog.typeName? 3 u = some "*errors.errorString") : u = 124 :=
  typeName_ptr_named (nm := "errors.errorString") (by rw [starA]; kernel_rfl) (by kernel_rfl) (by decide) u (by rw [starA]; exact h)
theorem laidLA_len : laidLA.length = 26 := by kernel_rfl
theorem laidLA_eq : ∃ x0 x1 x2 x3 x4 x5, laidLA = x0 :: x1 :: x2 :: x3 :: x4 :: x5 :: (errLA.map mkErr ++ laidLA.drop 25) := ⟨laidLA[0]'(by rw [laidLA_len]; omega), laidLA[1]'(by rw [laidLA_len]; omega), laidLA[2]'(by rw [laidLA_len]; omega), laidLA[3]'(by rw [laidLA_len]; omega), laidLA[4]'(by rw [laidLA_len]; omega), laidLA[5]'(by rw [laidLA_len]; omega), by kernel_rfl⟩
theorem errLA_len : errLA.length = 19 := by kernel_rfl
theorem errLA_gs : (errLA.map fun x => Tryd.prog.globalNamed x.1) = (ixLA.map gE).map some := by kernel_rfl
theorem u8extraA : U8Extra Tryd.prog Tryd.lays197_ren := ⟨by kernel_rfl, by kernel_rfl, by kernel_rfl, by kernel_rfl, by kernel_rfl, by kernel_rfl, by kernel_rfl⟩
theorem u8typesA : U8Types Tryd.prog Tryd.lays197_ren := { Tryd.lays197 with }

theorem std_of_laidA {W : World} (h : laidMetH Tryd.prog laidLA W) : ∃ a, Std ixLA a W := by
  rw [MakeChecks.laidMetH_plain _ _ _ (by kernel_rfl)] at h
  have hT : Utf8Tabs 20 21 W := by
    have e1 : (laidLA[25]?).map (·.2) = some firstData := by rw [← Pinned.utf8First_eq]; kernel_rfl
    have e2 : (laidLA[3]?).map (·.2) = some acceptData := by kernel_rfl
    have mem : ∀ (i : Nat) (n : String) (d : DataW Unit), (laidLA[i]?).map (·.1) = some n → (laidLA[i]?).map (·.2) = some d → (n, d) ∈ laidLA := fun i n d h1 h2 => by
      cases hx : laidLA[i]? with
      | none => rw [hx] at h1; cases h1
      | some x =>
        rw [hx] at h1 h2
        simp only [Option.map_some, Option.some.injEq] at h1 h2
        subst h1; subst h2
        exact List.mem_of_getElem? hx
    exact utf8Tabs_of_readsT u8typesA u8extraA (laidMet.reads h (mem 25 _ _ (by kernel_rfl) e1)) (laidMet.reads h (mem 3 _ _ (by kernel_rfl) e2))
  obtain ⟨x0, x1, x2, x3, x4, x5, hx⟩ := laidLA_eq
  rw [hx] at h
  obtain ⟨a, ha⟩ := errs_of_laid errLA (ixLA.map gE) Tryd.underlying29 rowErrA Tryd.underlying124 Tryd.underlying126 rfl rfl Tryd.underlying9 (by kernel_rfl) (by kernel_rfl) errLA_gs (by kernel_rfl) h.tail.tail.tail.tail.tail.tail
  exact ⟨_, er_of_errs (by decide) ha, hT⟩

def rngLA : List (String × List UInt8) := [((laidLA.getD 4 (starAN, .nil)).1, textOfA (laidLA.getD 4 (starAN, .nil)).2)]
theorem strc_of_laidA {W : World} (h : laidMetH Tryd.prog laidLA W) : Strc W := by
  rw [MakeChecks.laidMetH_plain _ _ _ (by kernel_rfl)] at h
  have h2 : ∃ x0 x1, laidLA = x0 :: x1 :: ("internal/strconv.uint64pow10", tabData .u64 pow10Tab) :: laidLA.drop 3 := ⟨laidLA[0]'(by rw [laidLA_len]; omega), laidLA[1]'(by rw [laidLA_len]; omega), by kernel_rfl⟩
  have h4 : ∃ x0 x1 x2 x3, laidLA = x0 :: x1 :: x2 :: x3 :: (rngLA.map mkErr ++ laidLA.drop 5) := ⟨laidLA[0]'(by rw [laidLA_len]; omega), laidLA[1]'(by rw [laidLA_len]; omega), laidLA[2]'(by rw [laidLA_len]; omega), laidLA[3]'(by rw [laidLA_len]; omega), by kernel_rfl⟩
  refine ⟨?_, ?_⟩
  · obtain ⟨x0, x1, hx⟩ := h2
    rw [hx] at h
    exact tabIs_of_head (g := 22) (t := 113) (e := 79) (n := 20) (by kernel_rfl) (by kernel_rfl) Tryd.underlying113 Tryd.underlying79 (by kernel_rfl) (by kernel_rfl) h.tail.tail
  · obtain ⟨x0, x1, x2, x3, hx⟩ := h4
    rw [hx] at h
    obtain ⟨a, ha⟩ := errs_of_laid rngLA [24] Tryd.underlying29 rowErrA Tryd.underlying124 Tryd.underlying126 rfl rfl Tryd.underlying9 (by kernel_rfl) (by kernel_rfl) (by kernel_rfl) (by kernel_rfl) h.tail.tail.tail.tail
    exact ⟨_, _, ha.cell 0 (by show 0 < 1; omega)⟩

/-- The witness's world: the list is met there. -/
theorem wit_metA (os : Os) (args : Array Value) : laidMetH Tryd.prog laidLA ((World.laidAll Tryd.prog os laidLA).forCall (fun _ _ => 0) ⟨#[], args, []⟩).memory := by
  rw [MakeChecks.laidMetH_plain _ _ _ (by kernel_rfl)]
  exact laidMet_laidAll _ (by kernel_rfl) (by kernel_rfl)
end Go.Proofs.YtlmibpfikafbdaaDoor
