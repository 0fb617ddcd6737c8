/- vellumlaw05.fixed. -/
import Derived.Test.YtkgflmbhkbeakabDoorQg
import Derived.Test.YtkgflmbhkbeakabDoorQh
import Derived.Deep.RegionHeld3
namespace Go.Proofs.YtkgflmbhkbeakabDoor
open Go Go.RowKit Go.Lib
set_option linter.unusedVariables false

def fx1 : Op5 := ⟨3, ⟨#[]⟩, z0, 3, []⟩
def fx2 : Op5 := ⟨1, ⟨#[97, 98]⟩, z0, 0, []⟩
def fx3 : Op5 := ⟨4, ⟨#[]⟩, z0, 2, []⟩
def fx4 : Op5 := ⟨4, ⟨#[]⟩, z0, 0, []⟩
abbrev fxL : List Op5 := [fx1, fx2, fx3]
theorem fx_opE : opE fx1 = 0 ∧ opE fx2 = 0 ∧ opE fx3 = 0 ∧ opE fx4 = 9 := by
  refine ⟨by decide +kernel, by decide +kernel, by decide +kernel, by decide +kernel⟩
theorem fx_bad : badP fxL = (0, 0) := bad_none fun o ho => by
  simp only [fxL, List.mem_cons, List.not_mem_nil, or_false] at ho
  rcases ho with rfl | rfl | rfl
  · exact fx_opE.1
  · exact fx_opE.2.1
  · exact fx_opE.2.2.1
theorem fx_len : len5 fx1 = 3 ∧ len5 fx2 = 2 ∧ len5 fx3 = 2 := by
  refine ⟨by decide +kernel, by decide +kernel, by decide +kernel⟩
theorem fx_sum : lensL fxL = (5, 5, 0) := by
  unfold lensL
  rw [fx_bad, if_neg (by simp)]
  simp only [sumL]
  unfold baseO resO
  rw [fx_len.1, fx_len.2.1, fx_len.2.2]
  decide
theorem fx_canon : canonB fxL = true := by
  unfold canonB
  rw [fx_sum]
  decide
theorem fx_plain : canonB [fx1] = false := by
  unfold canonB
  have : lastP [fx1] = false := by decide
  rw [this]; simp
theorem fx_fit : FitL fxL := fun o ho => by
  simp only [fxL, List.mem_cons, List.not_mem_nil, or_false] at ho
  rcases ho with rfl | rfl | rfl
  · exact ⟨by decide, by decide, fun q hq => (by cases hq), by decide⟩
  · exact ⟨by decide, by decide, fun q hq => (by cases hq), by decide⟩
  · exact ⟨by decide, by decide, fun q hq => (by cases hq), by decide⟩
theorem fit4 : Fit fx4 := ⟨by decide, by decide, fun q hq => (by cases hq), by decide⟩
abbrev fxC : Array Value := #[.int .i64 3, .string ⟨#[]⟩, .int .i64 0, .int .i64 0, .string ⟨#[]⟩, .int .i64 3, .slice none 0 0, .int .i64 1, .string ⟨#[97, 98]⟩, .int .i64 0, .int .i64 0, .string ⟨#[]⟩, .int .i64 0, .slice none 0 0, .int .i64 4, .string ⟨#[]⟩, .int .i64 0, .int .i64 0, .string ⟨#[]⟩, .int .i64 2, .slice none 0 0]
theorem fx_row (w : World) (cap : Nat) (hc : 3 ≤ cap) : ReO (w.alloc (.cells fxC 37)) (.slice (some ⟨w.heap.size, 0, none⟩) 3 cap) fxL := by
  refine ⟨[(3, ⟨#[]⟩, z0, 3, (none, 0, 0)), (1, ⟨#[97, 98]⟩, z0, 0, (none, 0, 0)), (4, ⟨#[]⟩, z0, 2, (none, 0, 0))], ⟨_, cap, rfl, hc, fun h => (by cases h), fun j d hd => ⟨w.heap.size, 0, rfl, ?_⟩⟩, ?_⟩
  · match j, hd with
    | 0, hd => obtain rfl : _ = d := by simpa using hd
               exact ⟨by simp, by simp, by simp [z0], by simp [z0], by simp [z0], by simp, by simp⟩
    | 1, hd => obtain rfl : _ = d := by simpa using hd
               exact ⟨by simp, by simp, by simp [z0], by simp [z0], by simp [z0], by simp, by simp⟩
    | 2, hd => obtain rfl : _ = d := by simpa using hd
               exact ⟨by simp, by simp, by simp [z0], by simp [z0], by simp [z0], by simp, by simp⟩
    | j + 3, hd => simp at hd
  · exact .cons ⟨rfl, rfl, rfl, rfl, RN.nil _⟩ (.cons ⟨rfl, rfl, rfl, rfl, RN.nil _⟩ (.cons ⟨rfl, rfl, rfl, rfl, RN.nil _⟩ .nil))
theorem re_one {w : World} {g n cap : Nat} {e : Op5} {r : List Op5} {cap' : Nat} (h : ReO w (.slice (some ⟨g, 0, none⟩) n cap) (e :: r)) (hc : 1 ≤ cap') : ReO w (.slice (some ⟨g, 0, none⟩) 1 cap') [e] := by
  obtain ⟨D, ⟨p, c, he, h1, h2, h3⟩, hre⟩ := h
  cases hre with
  | cons ha ht =>
    rename_i d l
    simp only [Value.slice.injEq] at he
    obtain ⟨rfl, -, -⟩ := he
    exact ⟨[d], ⟨_, cap', rfl, hc, fun h => (by cases h), fun j d' hd => by
      match j, hd with
      | 0, hd => exact h3 0 d' (by simpa using hd)
      | j + 1, hd => simp at hd⟩, .cons ha .nil⟩
end Go.Proofs.YtkgflmbhkbeakabDoor
