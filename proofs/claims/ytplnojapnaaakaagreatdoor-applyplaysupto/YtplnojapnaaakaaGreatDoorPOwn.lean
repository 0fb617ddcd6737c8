/- Slices that a call has made itself: what they keep; a slice of Plains as it lies in memory. -/
import Derived.Test.YtplnojapnaaakaaGreatDoorPVf
import Derived.OwnWalk
import Derived.Laws.AppendOwn
import Derived.Lib.OthersKept
namespace Go.Proofs.YtplnojapnaaakaaGreatDoor
open Go Go.RowKit Go.Lib
set_option linter.unusedVariables false
theorem owns_block {w : World} {B : Nat} {e : TypeId} {size : Nat} {v : Value} {n : Nat} {xs : List Value} (h : w.ownsRow B e size v n xs) (k : Nat) (hk : v.ownBlock = some k) : B ≤ k ∧ ∃ cur, w.heap[k]? = some (.cells cur e (0, 0)) := by
  rcases h.2 with ⟨rfl, _⟩ | ⟨g, cap, cur, rfl, h2, h3, _⟩
  · cases hk
  · simp only [Value.ownBlock, Option.some.injEq] at hk
    subst hk
    exact ⟨h2, cur, h3⟩
theorem owns_same {w w' : World} {B : Nat} {e : TypeId} {size : Nat} {v : Value} {n : Nat} {xs : List Value} (h : w.ownsRow B e size v n xs) (hb : ∀ k, v.ownBlock = some k → w'.heap[k]? = w.heap[k]?) : w'.ownsRow B e size v n xs := by
  obtain ⟨hl, h⟩ := h
  refine ⟨hl, ?_⟩
  rcases h with h | ⟨g, cap, cur, h1, h2, h3, h4⟩
  · exact Or.inl h
  · refine Or.inr ⟨g, cap, cur, h1, h2, ?_, h4⟩
    rw [hb g (by rw [h1]; rfl)]; exact h3
theorem owns_below {w w' : World} {B : Nat} {e : TypeId} {size : Nat} {v : Value} {n : Nat} {xs : List Value} (h : w.ownsRow B e size v n xs) (hb : Below w.heap.size w w') : w'.ownsRow B e size v n xs :=
  owns_same h fun k hk => by
    obtain ⟨_, cur, hc⟩ := owns_block h k hk
    exact hb.block k (Array.getElem?_eq_some_iff.1 hc).1
theorem own_val {w : World} {B : Nat} {e : TypeId} {v : Value} {m : Nat} {xs : List Value} (h : w.ownsRow B e 1 v m xs) (hm : 0 < m) : ∃ g cap, v = .slice (some ⟨g, 0, none⟩) m cap := by
  rcases h.2 with ⟨_, h0⟩ | ⟨g, cap, cur, h1, _⟩
  · omega
  · exact ⟨g, cap, h1⟩
/-- An owned slice's cells. -/
theorem own_cell {w : World} {B : Nat} {e : TypeId} {v : Value} {m : Nat} {xs : List Value} (h : w.ownsRow B e 1 v m xs) (j : Nat) (hj : j < m) :
    ∃ g cap x, v = .slice (some ⟨g, 0, none⟩) m cap ∧ B ≤ g ∧ xs[j]? = some x ∧ w.cell? ⟨g, j, none⟩ = some x := by
  rcases h.2 with ⟨_, h0⟩ | ⟨g, cap, cur, h1, h2, h3, h4, h5, h6, h7⟩
  · omega
  · have hx : j < xs.length := by rw [h.1]; omega
    refine ⟨g, cap, xs[j], h1, h2, List.getElem?_eq_getElem hx, ?_⟩
    have := congrArg (·[j]?) h7
    simp only [Nat.mul_one, List.getElem?_take, hj, if_true] at this
    simp only [World.cell?, h3]
    simpa [List.getElem?_eq_getElem hx] using this

/-- Three plain fields. -/
abbrev P3 : Type := Int × Int × ByteArray
abbrev chkP (p : P3) : Nat := chk p.1 p.2.1 p.2.2
abbrev valP (p : P3) : Value := valOf p.1 p.2.1 p.2.2
end Go.Proofs.YtplnojapnaaakaaGreatDoor
