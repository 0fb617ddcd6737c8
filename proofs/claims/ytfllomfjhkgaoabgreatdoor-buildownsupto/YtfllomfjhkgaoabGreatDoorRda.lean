/- What the reference of layer 1 answers: Scalar, Encode (and what its decoder needs: places, numbers, owned rows of numbers). -/
import Derived.Test.YtfllomfjhkgaoabGreatDoorSc
import Derived.Test.YtfllomfjhkgaoabGreatDoorOwn
import Derived.Test.YtfllomfjhkgaoabGreatDoorPos
import Derived.Laws.BytesArg
import Derived.Laws.RangeString
import Derived.Laws.RangeAny
import Derived.Deep.RegionWith
namespace Go.Proofs.YtfllomfjhkgaoabGreatDoor
open Go Go.RowKit Go.Lib
set_option linter.unusedVariables false


def isScal (z : Int) : Prop := (0 ≤ z ∧ z < 55296) ∨ (57344 ≤ z ∧ z ≤ 1114111)

def ints (rs : List Nat) : List Int := rs.map fun (r : Nat) => ((r : Nat) : Int)
theorem ints_length (rs : List Nat) : (ints rs).length = rs.length := by simp [ints]
def cells32 (zs : List Int) : List Value := zs.map fun z => .int .i32 z

/-- A slice of numbers that lies in memory made since B. -/
abbrev Own32 (B : Nat) (w : World) (v : Value) (zs : List Int) : Prop := w.ownsRow B 21 1 v zs.length (cells32 zs)

theorem info32 : ∃ i z, Tryz.prog.info? 21 = some i ∧ i.zero = some z ∧ i.size = 1 ∧ i.bytes = 4 ∧ z.cells.size = 1 := by
  obtain ⟨i, hi, h⟩ := Option.map_eq_some_iff.1 (show (Tryz.prog.info? 21).map (fun i => (i.zero, i.size, i.bytes)) = some (some (.int .i32 0), 1, 4) by kernel_rfl)
  simp only [Prod.mk.injEq] at h
  exact ⟨i, _, hi, h.1, h.2.1, h.2.2, rfl⟩

theorem ref_scal_yes (z : Int) (h : isScal z) (w : World) : Calls Tryz.prog 78 #[.int .i32 z] w fun e w' => e = .returned (.bool true) ∧ w' = w := by
  rcases h with ⟨h1, h2⟩ | ⟨h1, h2⟩
  · have f1 : decide (z ≥ 0) = true := decide_eq_true h1
    have f2 : decide (z < 55296) = true := decide_eq_true h2
    go_enter Tryz.func78, Tryz.ntmps78
    go_wp2
    go_ret
    exact ⟨rfl, rfl⟩
  · have f1 : decide (z ≥ 0) = true := decide_eq_true (by omega)
    have f2 : decide (z < 55296) = false := decide_eq_false (by omega)
    have f3 : decide (z ≥ 57344) = true := decide_eq_true h1
    have f4 : decide (z ≤ 1114111) = true := decide_eq_true h2
    go_enter Tryz.func78, Tryz.ntmps78
    go_wp2
    go_ret
    exact ⟨rfl, rfl⟩

theorem ref_scal_no (z : Int) (h : ¬ isScal z) (w : World) : Calls Tryz.prog 78 #[.int .i32 z] w fun e w' => e = .returned (.bool false) ∧ w' = w := by
  unfold isScal at h
  by_cases h0 : z < 0
  · have f1 : decide (z ≥ 0) = false := decide_eq_false (by omega)
    have f3 : decide (z ≥ 57344) = false := decide_eq_false (by omega)
    clear h
    go_enter Tryz.func78, Tryz.ntmps78
    go_wp2
    go_ret
    exact ⟨rfl, rfl⟩
  by_cases h1 : z < 57344
  · have f1 : decide (z ≥ 0) = true := decide_eq_true (by omega)
    have f2 : decide (z < 55296) = false := decide_eq_false (by omega)
    have f3 : decide (z ≥ 57344) = false := decide_eq_false (by omega)
    clear h
    go_enter Tryz.func78, Tryz.ntmps78
    go_wp2
    go_ret
    exact ⟨rfl, rfl⟩
  · have f1 : decide (z ≥ 0) = true := decide_eq_true (by omega)
    have f2 : decide (z < 55296) = false := decide_eq_false (by omega)
    have f3 : decide (z ≥ 57344) = true := decide_eq_true (by omega)
    have f4 : decide (z ≤ 1114111) = false := decide_eq_false (by omega)
    clear h
    go_enter Tryz.func78, Tryz.ntmps78
    go_wp2
    go_ret
    exact ⟨rfl, rfl⟩

def b8 (z : Int) : UInt8 := z.toNat.toUInt8

theorem conv1 (a : Int) (w : World) : (convert 64 9 (.slice (some ⟨w.heap.size, 0, none⟩) 1 1)).run Tryz.prog (w.alloc (.cells #[.int .u8 a] 5)) = .ok (.string ⟨#[b8 a]⟩) (w.alloc (.cells #[.int .u8 a] 5)) := by
  have := run_convert_bytes_arg (P := Tryz.prog) (w.alloc (.cells #[.int .u8 a] 5)) 64 5 Tryz.underlying64 Tryz.underlying5 w.heap.size 0 1 1 [a] rfl (fun i hi => by
    match i, hi with
    | 0, _ => simp) 9 Tryz.underlying9
  exact this
theorem conv2 (a b : Int) (w : World) : (convert 64 9 (.slice (some ⟨w.heap.size, 0, none⟩) 2 2)).run Tryz.prog (w.alloc (.cells #[.int .u8 a, .int .u8 b] 5)) = .ok (.string ⟨#[b8 a, b8 b]⟩) (w.alloc (.cells #[.int .u8 a, .int .u8 b] 5)) := by
  have := run_convert_bytes_arg (P := Tryz.prog) (w.alloc (.cells #[.int .u8 a, .int .u8 b] 5)) 64 5 Tryz.underlying64 Tryz.underlying5 w.heap.size 0 2 2 [a, b] rfl (fun i hi => by
    match i, hi with
    | 0, _ => simp
    | 1, _ => simp) 9 Tryz.underlying9
  exact this
theorem conv3 (a b c : Int) (w : World) : (convert 64 9 (.slice (some ⟨w.heap.size, 0, none⟩) 3 3)).run Tryz.prog (w.alloc (.cells #[.int .u8 a, .int .u8 b, .int .u8 c] 5)) = .ok (.string ⟨#[b8 a, b8 b, b8 c]⟩) (w.alloc (.cells #[.int .u8 a, .int .u8 b, .int .u8 c] 5)) := by
  have := run_convert_bytes_arg (P := Tryz.prog) (w.alloc (.cells #[.int .u8 a, .int .u8 b, .int .u8 c] 5)) 64 5 Tryz.underlying64 Tryz.underlying5 w.heap.size 0 3 3 [a, b, c] rfl (fun i hi => by
    match i, hi with
    | 0, _ => simp
    | 1, _ => simp
    | 2, _ => simp) 9 Tryz.underlying9
  exact this
theorem conv4 (a b c d : Int) (w : World) : (convert 64 9 (.slice (some ⟨w.heap.size, 0, none⟩) 4 4)).run Tryz.prog (w.alloc (.cells #[.int .u8 a, .int .u8 b, .int .u8 c, .int .u8 d] 5)) = .ok (.string ⟨#[b8 a, b8 b, b8 c, b8 d]⟩) (w.alloc (.cells #[.int .u8 a, .int .u8 b, .int .u8 c, .int .u8 d] 5)) := by
  have := run_convert_bytes_arg (P := Tryz.prog) (w.alloc (.cells #[.int .u8 a, .int .u8 b, .int .u8 c, .int .u8 d] 5)) 64 5 Tryz.underlying64 Tryz.underlying5 w.heap.size 0 4 4 [a, b, c, d] rfl (fun i hi => by
    match i, hi with
    | 0, _ => simp
    | 1, _ => simp
    | 2, _ => simp
    | 3, _ => simp) 9 Tryz.underlying9
  exact this

theorem ref_encode (r : Nat) (h : scal r) (w : World) : Calls Tryz.prog 79 #[.int .i32 r] w fun e w' => e = .returned (.string ⟨(enc r).toArray⟩) ∧ Below w.heap.size w w' := by
  have hr : (r : Int) ≤ 1114111 := by unfold scal at h; omega
  have g1 := conv1
  have g2 := conv2
  have g3 := conv3
  have g4 := conv4
  by_cases h1 : r < 128
  · have f1 : (r : Int) < 128 := by omega
    have HE : Hid (enc r = _) := enc_one h1
    clear h g2 g3 g4
    go_enter Tryz.func79, Tryz.ntmps79
    go_wp2
    go_ret
    rw [HE.out]
    exact ⟨rfl, (Below.refl _ _).alloc (Nat.le_refl _) _⟩
  by_cases h2 : r < 2048
  · have f1 : ¬ (r : Int) < 128 := by omega
    have f2 : (r : Int) < 2048 := by omega
    have HE : Hid (enc r = _) := enc_two (by omega) h2
    clear h g1 g3 g4
    go_enter Tryz.func79, Tryz.ntmps79
    go_wp2
    go_ret
    rw [HE.out]
    exact ⟨rfl, (Below.refl _ _).alloc (Nat.le_refl _) _⟩
  by_cases h3 : r < 65536
  · have f1 : ¬ (r : Int) < 128 := by omega
    have f2 : ¬ (r : Int) < 2048 := by omega
    have f3 : (r : Int) < 65536 := by omega
    have HE : Hid (enc r = _) := enc_three (by omega) h3 h
    clear h g1 g2 g4
    go_enter Tryz.func79, Tryz.ntmps79
    go_wp2
    go_ret
    rw [HE.out]
    exact ⟨rfl, (Below.refl _ _).alloc (Nat.le_refl _) _⟩
  · have f1 : ¬ (r : Int) < 128 := by omega
    have f2 : ¬ (r : Int) < 2048 := by omega
    have f3 : ¬ (r : Int) < 65536 := by omega
    have HE : Hid (enc r = _) := enc_four (by omega) (by omega)
    clear h g1 g2 g3
    go_enter Tryz.func79, Tryz.ntmps79
    go_wp2
    go_ret
    rw [HE.out]
    exact ⟨rfl, (Below.refl _ _).alloc (Nat.le_refl _) _⟩

end Go.Proofs.YtfllomfjhkgaoabGreatDoor
