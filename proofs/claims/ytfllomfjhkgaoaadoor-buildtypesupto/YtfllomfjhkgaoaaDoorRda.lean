/- What the reference of layer 1 answers: Scalar, Encode (and what its decoder needs: places, numbers, owned rows of numbers). -/
import Derived.Test.YtfllomfjhkgaoaaDoorSc
import Derived.Test.YtfllomfjhkgaoaaDoorOwn
import Derived.Test.YtfllomfjhkgaoaaDoorPos
import Derived.Laws.BytesArg
import Derived.Laws.RangeString
import Derived.Laws.RangeAny
import Derived.Deep.RegionWith
namespace Go.Proofs.YtfllomfjhkgaoaaDoor
open Go Go.RowKit Go.Lib
set_option linter.unusedVariables false


def isScal (z : Int) : Prop := (0 ≤ z ∧ z < 55296) ∨ (57344 ≤ z ∧ z ≤ 1114111)

def ints (rs : List Nat) : List Int := rs.map fun (r : Nat) => ((r : Nat) : Int)
theorem ints_length (rs : List Nat) : (ints rs).length = rs.length := by simp [ints]
def cells32 (zs : List Int) : List Value := zs.map fun z => .int .i32 z

/-- A slice of numbers that lies in memory made since B. -/
abbrev Own32 (B : Nat) (w : World) (v : Value) (zs : List Int) : Prop := w.ownsRow B 21 1 v zs.length (cells32 zs)

theorem info32 : ∃ i z, Tryd.prog.info? 21 = some i ∧ i.zero = some z ∧ i.size = 1 ∧ i.bytes = 4 ∧ z.cells.size = 1 := by
  obtain ⟨i, hi, h⟩ := Option.map_eq_some_iff.1 (show (Tryd.prog.info? 21).map (fun i => (i.zero, i.size, i.bytes)) = some (some (.int .i32 0), 1, 4) by kernel_rfl)
  simp only [Prod.mk.injEq] at h
  exact ⟨i, _, hi, h.1, h.2.1, h.2.2, rfl⟩

def b8 (z : Int) : UInt8 := z.toNat.toUInt8

theorem conv1 (a : Int) (w : World) : (convert 85 9 (.slice (some ⟨w.heap.size, 0, none⟩) 1 1)).run Tryd.prog (w.alloc (.cells #[.int .u8 a] 5)) = .ok (.string ⟨#[b8 a]⟩) (w.alloc (.cells #[.int .u8 a] 5)) := by
  have := run_convert_bytes_arg (P := Tryd.prog) (w.alloc (.cells #[.int .u8 a] 5)) 85 5 Tryd.underlying85 Tryd.underlying5 w.heap.size 0 1 1 [a] rfl (fun i hi => by
    match i, hi with
    | 0, _ => simp) 9 Tryd.underlying9
  exact this
theorem conv2 (a b : Int) (w : World) : (convert 85 9 (.slice (some ⟨w.heap.size, 0, none⟩) 2 2)).run Tryd.prog (w.alloc (.cells #[.int .u8 a, .int .u8 b] 5)) = .ok (.string ⟨#[b8 a, b8 b]⟩) (w.alloc (.cells #[.int .u8 a, .int .u8 b] 5)) := by
  have := run_convert_bytes_arg (P := Tryd.prog) (w.alloc (.cells #[.int .u8 a, .int .u8 b] 5)) 85 5 Tryd.underlying85 Tryd.underlying5 w.heap.size 0 2 2 [a, b] rfl (fun i hi => by
    match i, hi with
    | 0, _ => simp
    | 1, _ => simp) 9 Tryd.underlying9
  exact this
theorem conv3 (a b c : Int) (w : World) : (convert 85 9 (.slice (some ⟨w.heap.size, 0, none⟩) 3 3)).run Tryd.prog (w.alloc (.cells #[.int .u8 a, .int .u8 b, .int .u8 c] 5)) = .ok (.string ⟨#[b8 a, b8 b, b8 c]⟩) (w.alloc (.cells #[.int .u8 a, .int .u8 b, .int .u8 c] 5)) := by
  have := run_convert_bytes_arg (P := Tryd.prog) (w.alloc (.cells #[.int .u8 a, .int .u8 b, .int .u8 c] 5)) 85 5 Tryd.underlying85 Tryd.underlying5 w.heap.size 0 3 3 [a, b, c] rfl (fun i hi => by
    match i, hi with
    | 0, _ => simp
    | 1, _ => simp
    | 2, _ => simp) 9 Tryd.underlying9
  exact this
theorem conv4 (a b c d : Int) (w : World) : (convert 85 9 (.slice (some ⟨w.heap.size, 0, none⟩) 4 4)).run Tryd.prog (w.alloc (.cells #[.int .u8 a, .int .u8 b, .int .u8 c, .int .u8 d] 5)) = .ok (.string ⟨#[b8 a, b8 b, b8 c, b8 d]⟩) (w.alloc (.cells #[.int .u8 a, .int .u8 b, .int .u8 c, .int .u8 d] 5)) := by
  have := run_convert_bytes_arg (P := Tryd.prog) (w.alloc (.cells #[.int .u8 a, .int .u8 b, .int .u8 c, .int .u8 d] 5)) 85 5 Tryd.underlying85 Tryd.underlying5 w.heap.size 0 4 4 [a, b, c, d] rfl (fun i hi => by
    match i, hi with
    | 0, _ => simp
    | 1, _ => simp
    | 2, _ => simp
    | 3, _ => simp) 9 Tryd.underlying9
  exact this

end Go.Proofs.YtfllomfjhkgaoaaDoor
