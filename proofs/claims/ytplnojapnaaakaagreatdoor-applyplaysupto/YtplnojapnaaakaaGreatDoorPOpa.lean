/- A slice of pairs among the arguments: what its reading gives the walk. -/
import Derived.Test.YtplnojapnaaakaaGreatDoorPAl
import Derived.Test.YtplnojapnaaakaaGreatDoorPPl
import Derived.Deep.Slices
import Derived.Test.YtplnojapnaaakaaGreatDoorRows
import Derived.Lib.SmallJoins
namespace Go.Proofs.YtplnojapnaaakaaGreatDoor
open Go Go.RowKit Go.Lib Go.ChangeShapes Go.WideShapes Go.ChangeAt Go.Joins
set_option linter.unusedVariables false
theorem bulk_mem {H : Type} : ∀ (l : List (DataW H)) (x : DataW H), x ∈ l → Rows.uptoBulk x ≤ Rows.uptoBulkAll l
  | [], x, h => by cases h
  | y :: r, x, h => by
    simp only [Rows.uptoBulkAll]
    rcases List.mem_cons.1 h with rfl | h
    · omega
    · have := bulk_mem r x h; omega
theorem bulk_len {H : Type} : ∀ (l : List (DataW H)), (∀ x ∈ l, 1 ≤ Rows.uptoBulk x) → l.length ≤ Rows.uptoBulkAll l
  | [], _ => Nat.zero_le _
  | y :: r, h => by
    have h1 := h y (List.mem_cons_self ..)
    have h2 := bulk_len r fun x hx => h x (List.mem_cons_of_mem _ hx)
    simp only [Rows.uptoBulkAll, List.length_cons]; omega
abbrev atD {H : Type} (q : A2) : DataW H := .agg [.lit (.string q.1.data.toList), plD q.2.1 q.2.2.1 q.2.2.2]
theorem bulk_atD {H : Type} (q : A2) : Rows.uptoBulk (atD q : DataW H) = q.1.size + q.2.2.2.size + 6 := by
  simp only [Rows.uptoBulk, Rows.uptoBulkAll, size_toList]; omega
theorem cellsAttr : Tryz.prog.cellsOf 154 = 4 := by kernel_rfl
set_option maxRecDepth 100000 in
/-- A pair's datum. -/
theorem trod_at {H : Type} {enc : TypeId × Value → H} {W : World} {cs : List Value} {d : DataW H} {p : List MemPlace} (hlen : cs.length = 4)
    (h : ∃ fuel, DataW.trod enc Tryz.prog W 0 (fun _ => true) true fuel 154 cs = some (d, p)) :
    ∃ q : A2, cs = [.string q.1, .int .i64 q.2.1, .int .i64 q.2.2.1, .string q.2.2.2] ∧ d = atD q ∧ p = [] := by
  obtain ⟨fuel, h2⟩ := h
  have k0 : Tryz.prog.cellsOf 9 = 1 := by kernel_rfl
  have k1 : Tryz.prog.cellsOf 3 = 1 := by kernel_rfl
  have k2 : Tryz.prog.cellsOf 2 = 1 := by kernel_rfl
  have k3 : Tryz.prog.cellsOf 30 = 3 := cellsPlain
  obtain ⟨xs, kk, _, hxy, _, hxl, hf⟩ := DataW.trod_struct Tryz.underlying154 h2
  match xs, hxl, cs, hlen with
  | [y0, y1], _, [v0, v1, v2, v3], _ =>
    have g0 := hf 0 _ rfl
    have g1 := hf 1 _ rfl
    simp [k0] at g0
    simp [k3] at g1
    obtain ⟨t, e0, rfl, _⟩ := DataW.trod_string Tryz.underlying9 g0
    obtain ⟨ys, kk', _, hxy', _, hyl, hf'⟩ := DataW.trod_struct Tryz.underlying30 g1
    match ys, hyl with
    | [z0, z1, z2], _ =>
      have j0 := hf' 0 _ rfl
      have j1 := hf' 1 _ rfl
      have j2 := hf' 2 _ rfl
      simp [k1] at j0
      simp [k2] at j1
      simp [k0] at j2
      obtain ⟨k, e1, rfl, _⟩ := DataW.trod_int Tryz.underlying3 j0
      obtain ⟨n, e2, rfl, _⟩ := DataW.trod_int Tryz.underlying2 j1
      obtain ⟨t', e3, rfl, _⟩ := DataW.trod_string Tryz.underlying9 j2
      simp at e0 e1 e2 e3
      subst e0 e1 e2 e3
      simp only [Prod.mk.injEq] at hxy
      subst hxy'
      exact ⟨(t, k, n, t'), rfl, by rw [hxy.1]; simp, by rw [hxy.2]; simp⟩

end Go.Proofs.YtplnojapnaaakaaGreatDoor
