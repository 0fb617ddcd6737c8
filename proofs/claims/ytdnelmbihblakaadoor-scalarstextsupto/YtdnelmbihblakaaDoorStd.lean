/- From a row's list of laid variables to what the walks ask of memory; the world of the witness. -/
import Derived.Test.YtdnelmbihblakaaDoorCards
import Derived.Test.YtdnelmbihblakaaDoorTie
import Derived.Test.YtdnelmbihblakaaDoorSca
import Derived.WalkKit
import Derived.ProofKit
import Derived.OpenShut
import Derived.Lib.LaidU8T
import Derived.PinnedBridge
import Derived.Lay
import Derived.LaidMore
import Derived.SevenTiedAt
import Derived.Stop.Joined
import Derived.Deep.DeepHandedRow
import Derived.SizedLaws
namespace Go.Proofs.YtdnelmbihblakaaDoor
open Go Go.RowKit Go.Lib Go.Shelf Go.ChangeShapes Go.WideShapes Go.ChangeAt
set_option linter.unusedVariables false

def textOf : DataW Unit → List UInt8
  | .iface _ (.ptr (.agg [.lit (.string t)])) => t
  | _ => []
/-- The list that every row of this seat with utf8's tables bears. -/
def laidL : List (String × DataW Unit) := Rows.scalarsTextsRow.laid
def errL : List (String × List UInt8) := ((laidL.drop 1).take 19).map fun x => (x.1, textOf x.2)

theorem own : ownKnob Tryd.prog.godebug = none := by kernel_rfl
theorem star : "*" ++ "errors.errorString" = "*errors.errorString" := by decide
theorem rowErr (u : TypeId) (h : Tryd.prog.typeName? 3 u = some "*errors.errorString") : u = 85 :=
  typeName_ptr_named (nm := "errors.errorString") (by rw [star]; kernel_rfl) (by kernel_rfl) (by decide) u (by rw [star]; exact h)

theorem laidL_len : laidL.length = 21 := by kernel_rfl
theorem laidL_eq : ∃ x, laidL = x :: (errL.map mkErr ++ laidL.drop 20) := ⟨laidL[0]'(by rw [laidL_len]; omega), by kernel_rfl⟩
theorem errL_len : errL.length = 19 := by kernel_rfl
theorem errL_texts : errL.map (·.2) = errTexts := by kernel_rfl
theorem errL_gs : (errL.map fun x => Tryd.prog.globalNamed x.1) = [0, 2, 3, 4, 5, 6, 7, 8, 9, 10, 11, 1, 12, 13, 14, 15, 16, 17, 18].map some := by kernel_rfl
theorem u8extra : U8Extra Tryd.prog Tryd.lays197_ren := ⟨by kernel_rfl, by kernel_rfl, by kernel_rfl, by kernel_rfl, by kernel_rfl, by kernel_rfl, by kernel_rfl⟩
theorem u8types : U8Types Tryd.prog Tryd.lays197_ren := { Tryd.lays197 with }

theorem sent_of_laid {rest : List (String × DataW Unit)} {W : World} (h : laidMet Tryd.prog (errL.map mkErr ++ rest) W) : ∃ a, Sent a W := by
  obtain ⟨a, ha⟩ := errs_of_laid errL [0, 2, 3, 4, 5, 6, 7, 8, 9, 10, 11, 1, 12, 13, 14, 15, 16, 17, 18] Tryd.underlying24 rowErr Tryd.underlying85 Tryd.underlying100 rfl rfl Tryd.underlying9 (by kernel_rfl) (by kernel_rfl) errL_gs (by kernel_rfl) h
  rw [errL_len, errL_texts] at ha
  exact ⟨a, ha⟩

theorem std_of_laid {W : World} (h : laidMetH Tryd.prog laidL W) : ∃ a, Std a W := by
  rw [MakeChecks.laidMetH_plain _ _ _ (by kernel_rfl)] at h
  have hT : Utf8Tabs 19 20 W := by
    have e1 : (laidL[20]?).map (·.2) = some firstData := by rw [← Pinned.utf8First_eq]; kernel_rfl
    have e2 : (laidL[0]?).map (·.2) = some acceptData := by kernel_rfl
    have mem : ∀ (i : Nat) (n : String) (d : DataW Unit), (laidL[i]?).map (·.1) = some n → (laidL[i]?).map (·.2) = some d → (n, d) ∈ laidL := fun i n d h1 h2 => by
      cases hx : laidL[i]? with
      | none => rw [hx] at h1; cases h1
      | some x =>
        rw [hx] at h1 h2
        simp only [Option.map_some, Option.some.injEq] at h1 h2
        subst h1; subst h2
        exact List.mem_of_getElem? hx
    exact utf8Tabs_of_readsT u8types u8extra (laidMet.reads h (mem 20 _ _ (by kernel_rfl) e1)) (laidMet.reads h (mem 0 _ _ (by kernel_rfl) e2))
  obtain ⟨x, hx⟩ := laidL_eq
  rw [hx] at h
  obtain ⟨a, ha⟩ := sent_of_laid h.tail
  exact ⟨a, ha, hT⟩

/-- The witness's world: the list is met there. -/
theorem wit_met (os : Os) (args : Array Value) : laidMetH Tryd.prog laidL ((World.laidAll Tryd.prog os laidL).forCall (fun _ _ => 0) ⟨#[], args, []⟩).memory := by
  rw [MakeChecks.laidMetH_plain _ _ _ (by kernel_rfl)]
  exact laidMet_laidAll _ (by kernel_rfl) (by kernel_rfl)
end Go.Proofs.YtdnelmbihblakaaDoor
