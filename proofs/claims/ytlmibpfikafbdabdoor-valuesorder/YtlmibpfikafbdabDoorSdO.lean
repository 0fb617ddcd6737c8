/- From a row's list of laid variables (valuesOrderRow) to what the walks ask of memory; the world of the witness. -/
import Derived.Test.YtlmibpfikafbdabDoorCards
import Derived.Test.YtlmibpfikafbdabDoorTie
import Derived.Test.YtlmibpfikafbdabDoorSc
import Derived.Test.YtlmibpfikafbdabDoorVx
import Derived.WalkKit
import Derived.ProofKit
import Derived.OpenShut
import Derived.Lib.LaidU8T
import Derived.Lib.LaidTab
import Derived.PinnedBridge
import Derived.Lay
import Derived.LaidMore
import Derived.SevenTiedAt
import Derived.Stop.Joined
import Derived.Deep.DeepHandedRow
import Derived.SizedLaws
namespace Go.Proofs.YtlmibpfikafbdabDoor
open Go Go.RowKit Go.Lib Go.Shelf Go.ChangeShapes Go.WideShapes Go.ChangeAt
set_option linter.unusedVariables false

/-- The list that the rows bear. -/
def laidLO : List (String × DataW Unit) := Rows.valuesOrderRow.laid
def ixLO : List Nat := [0, 3, 4, 9]
def textOfO : DataW Unit → List UInt8
  | .iface _ (.ptr (.agg [.lit (.string t)])) => t
  | _ => []
def errLO : List (String × List UInt8) := ((laidLO.drop 6).take 4).map fun x => (x.1, textOfO x.2)
def starON : String := "x"
theorem ownO : ownKnob Tryd.prog.godebug = none := by kernel_rfl
theorem starO : "*" ++ "errors.errorString" = "*errors.errorString" := by decide
theorem rowErrO (u : TypeId) (h : Tryd.prog.typeName? 3 u = some "*errors.errorString") : u = 98 :=
  typeName_ptr_named (nm := "errors.errorString") (by rw [starO]; kernel_rfl) (by kernel_rfl) (by decide) u (by rw [starO]; exact h)
theorem laidLO_len : laidLO.length = 11 := by kernel_rfl
theorem laidLO_eq : ∃ x0 x1 x2 x3 x4 x5, laidLO = x0 :: x1 :: x2 :: x3 :: x4 :: x5 :: (errLO.map mkErr ++ laidLO.drop 10) := ⟨laidLO[0]'(by rw [laidLO_len]; omega), laidLO[1]'(by rw [laidLO_len]; omega), laidLO[2]'(by rw [laidLO_len]; omega), laidLO[3]'(by rw [laidLO_len]; omega), laidLO[4]'(by rw [laidLO_len]; omega), laidLO[5]'(by rw [laidLO_len]; omega), by kernel_rfl⟩
theorem errLO_len : errLO.length = 4 := by kernel_rfl
theorem errLO_gs : (errLO.map fun x => Tryd.prog.globalNamed x.1) = (ixLO.map gE).map some := by kernel_rfl
theorem u8extraO : U8Extra Tryd.prog Tryd.lays197_ren := ⟨by kernel_rfl, by kernel_rfl, by kernel_rfl, by kernel_rfl, by kernel_rfl, by kernel_rfl, by kernel_rfl⟩
theorem u8typesO : U8Types Tryd.prog Tryd.lays197_ren := { Tryd.lays197 with }

theorem std_of_laidO {W : World} (h : laidMetH Tryd.prog laidLO W) : ∃ a, Std ixLO a W := by
  rw [MakeChecks.laidMetH_plain _ _ _ (by kernel_rfl)] at h
  have hT : Utf8Tabs 5 6 W := by
    have e1 : (laidLO[10]?).map (·.2) = some firstData := by rw [← Pinned.utf8First_eq]; kernel_rfl
    have e2 : (laidLO[3]?).map (·.2) = some acceptData := by kernel_rfl
    have mem : ∀ (i : Nat) (n : String) (d : DataW Unit), (laidLO[i]?).map (·.1) = some n → (laidLO[i]?).map (·.2) = some d → (n, d) ∈ laidLO := fun i n d h1 h2 => by
      cases hx : laidLO[i]? with
      | none => rw [hx] at h1; cases h1
      | some x =>
        rw [hx] at h1 h2
        simp only [Option.map_some, Option.some.injEq] at h1 h2
        subst h1; subst h2
        exact List.mem_of_getElem? hx
    exact utf8Tabs_of_readsT u8typesO u8extraO (laidMet.reads h (mem 10 _ _ (by kernel_rfl) e1)) (laidMet.reads h (mem 3 _ _ (by kernel_rfl) e2))
  obtain ⟨x0, x1, x2, x3, x4, x5, hx⟩ := laidLO_eq
  rw [hx] at h
  obtain ⟨a, ha⟩ := errs_of_laid errLO (ixLO.map gE) Tryd.underlying27 rowErrO Tryd.underlying98 Tryd.underlying100 rfl rfl Tryd.underlying9 (by kernel_rfl) (by kernel_rfl) errLO_gs (by kernel_rfl) h.tail.tail.tail.tail.tail.tail
  exact ⟨_, er_of_errs (by decide) ha, hT⟩

def rngLO : List (String × List UInt8) := [((laidLO.getD 4 (starON, .nil)).1, textOfO (laidLO.getD 4 (starON, .nil)).2)]
theorem strc_of_laidO {W : World} (h : laidMetH Tryd.prog laidLO W) : Strc W := by
  rw [MakeChecks.laidMetH_plain _ _ _ (by kernel_rfl)] at h
  have h2 : ∃ x0 x1, laidLO = x0 :: x1 :: ("internal/strconv.uint64pow10", tabData .u64 pow10Tab) :: laidLO.drop 3 := ⟨laidLO[0]'(by rw [laidLO_len]; omega), laidLO[1]'(by rw [laidLO_len]; omega), by kernel_rfl⟩
  have h4 : ∃ x0 x1 x2 x3, laidLO = x0 :: x1 :: x2 :: x3 :: (rngLO.map mkErr ++ laidLO.drop 5) := ⟨laidLO[0]'(by rw [laidLO_len]; omega), laidLO[1]'(by rw [laidLO_len]; omega), laidLO[2]'(by rw [laidLO_len]; omega), laidLO[3]'(by rw [laidLO_len]; omega), by kernel_rfl⟩
  refine ⟨?_, ?_⟩
  · obtain ⟨x0, x1, hx⟩ := h2
    rw [hx] at h
    exact tabIs_of_head (g := 9) (t := 94) (e := 71) (n := 20) (by kernel_rfl) (by kernel_rfl) Tryd.underlying94 Tryd.underlying71 (by kernel_rfl) (by kernel_rfl) h.tail.tail
  · obtain ⟨x0, x1, x2, x3, hx⟩ := h4
    rw [hx] at h
    obtain ⟨a, ha⟩ := errs_of_laid rngLO [8] Tryd.underlying27 rowErrO Tryd.underlying98 Tryd.underlying100 rfl rfl Tryd.underlying9 (by kernel_rfl) (by kernel_rfl) (by kernel_rfl) (by kernel_rfl) h.tail.tail.tail.tail
    exact ⟨_, _, ha.cell 0 (by show 0 < 1; omega)⟩

/-- The witness's world: the list is met there. -/
theorem wit_metO (os : Os) (args : Array Value) : laidMetH Tryd.prog laidLO ((World.laidAll Tryd.prog os laidLO).forCall (fun _ _ => 0) ⟨#[], args, []⟩).memory := by
  rw [MakeChecks.laidMetH_plain _ _ _ (by kernel_rfl)]
  exact laidMet_laidAll _ (by kernel_rfl) (by kernel_rfl)
end Go.Proofs.YtlmibpfikafbdabDoor
