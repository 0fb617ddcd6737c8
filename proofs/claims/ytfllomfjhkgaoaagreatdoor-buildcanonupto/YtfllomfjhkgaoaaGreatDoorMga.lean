/- What the reference of layer 1 answers: Scalar, Encode (and what its decoder needs: places, numbers, owned rows of numbers). What the reference's first answers: the scalar with whose encoding a text begins at a place. What the reference's first and decode answer. What the reference's decode, Breaks, List and Check answer. -/
import Derived.Test.YtfllomfjhkgaoaaGreatDoorSc
import Derived.Test.YtfllomfjhkgaoaaGreatDoorOwn
import Derived.Test.YtfllomfjhkgaoaaGreatDoorPos
import Derived.Laws.BytesArg
import Derived.Laws.RangeString
import Derived.Laws.RangeAny
import Derived.Deep.RegionWith
import Derived.PlainAid
import Derived.Handy
import Derived.Lib.QuietBelow
import Derived.BigQuiet
import Derived.OwnWalk
import Derived.Laws.AppendOwn

/- What the reference of layer 1 answers: Scalar, Encode (and what its decoder needs: places, numbers, owned rows of numbers). -/
namespace Go.Proofs.YtfllomfjhkgaoaaGreatDoor
open Go Go.RowKit Go.Lib
set_option linter.unusedVariables false


def isScal (z : Int) : Prop := (0 ≤ z ∧ z < 55296) ∨ (57344 ≤ z ∧ z ≤ 1114111)

def ints (rs : List Nat) : List Int := rs.map fun (r : Nat) => ((r : Nat) : Int)
theorem ints_length (rs : List Nat) : (ints rs).length = rs.length := by simp [ints]
def cells32 (zs : List Int) : List Value := zs.map fun z => .int .i32 z

/-- A slice of numbers that lies in memory made since B. -/
abbrev Own32 (B : Nat) (w : World) (v : Value) (zs : List Int) : Prop := w.ownsRow B 21 1 v zs.length (cells32 zs)

theorem info32 : ∃ i z, Tryz.prog.info? 21 = some i ∧ i.zero = some z ∧ i.size = 1 ∧ i.bytes = 4 ∧ z.cells.size = 1 := by
  obtain ⟨i, hi, h⟩ := Option.map_eq_some_iff.1 (show (Tryz.prog.info? 21).map (fun i => (i.zero, i.size, i.bytes)) = some (some (.int .i32 0), 1, 4) by kernel_rfl)
  simp only [Prod.mk.injEq] at h
  exact ⟨i, _, hi, h.1, h.2.1, h.2.2, rfl⟩

theorem ref_scal_yes (z : Int) (h : isScal z) (w : World) : Calls Tryz.prog 116 #[.int .i32 z] w fun e w' => e = .returned (.bool true) ∧ w' = w := by
  rcases h with ⟨h1, h2⟩ | ⟨h1, h2⟩
  · have f1 : decide (z ≥ 0) = true := decide_eq_true h1
    have f2 : decide (z < 55296) = true := decide_eq_true h2
    go_enter Tryz.func116, Tryz.ntmps116
    go_wp2
    go_ret
    exact ⟨rfl, rfl⟩
  · have f1 : decide (z ≥ 0) = true := decide_eq_true (by omega)
    have f2 : decide (z < 55296) = false := decide_eq_false (by omega)
    have f3 : decide (z ≥ 57344) = true := decide_eq_true h1
    have f4 : decide (z ≤ 1114111) = true := decide_eq_true h2
    go_enter Tryz.func116, Tryz.ntmps116
    go_wp2
    go_ret
    exact ⟨rfl, rfl⟩

theorem ref_scal_no (z : Int) (h : ¬ isScal z) (w : World) : Calls Tryz.prog 116 #[.int .i32 z] w fun e w' => e = .returned (.bool false) ∧ w' = w := by
  unfold isScal at h
  by_cases h0 : z < 0
  · have f1 : decide (z ≥ 0) = false := decide_eq_false (by omega)
    have f3 : decide (z ≥ 57344) = false := decide_eq_false (by omega)
    clear h
    go_enter Tryz.func116, Tryz.ntmps116
    go_wp2
    go_ret
    exact ⟨rfl, rfl⟩
  by_cases h1 : z < 57344
  · have f1 : decide (z ≥ 0) = true := decide_eq_true (by omega)
    have f2 : decide (z < 55296) = false := decide_eq_false (by omega)
    have f3 : decide (z ≥ 57344) = false := decide_eq_false (by omega)
    clear h
    go_enter Tryz.func116, Tryz.ntmps116
    go_wp2
    go_ret
    exact ⟨rfl, rfl⟩
  · have f1 : decide (z ≥ 0) = true := decide_eq_true (by omega)
    have f2 : decide (z < 55296) = false := decide_eq_false (by omega)
    have f3 : decide (z ≥ 57344) = true := decide_eq_true (by omega)
    have f4 : decide (z ≤ 1114111) = false := decide_eq_false (by omega)
    clear h
    go_enter Tryz.func116, Tryz.ntmps116
    go_wp2
    go_ret
    exact ⟨rfl, rfl⟩

def b8 (z : Int) : UInt8 := z.toNat.toUInt8

theorem conv1 (a : Int) (w : World) : (convert 80 9 (.slice (some ⟨w.heap.size, 0, none⟩) 1 1)).run Tryz.prog (w.alloc (.cells #[.int .u8 a] 5)) = .ok (.string ⟨#[b8 a]⟩) (w.alloc (.cells #[.int .u8 a] 5)) := by
  have := run_convert_bytes_arg (P := Tryz.prog) (w.alloc (.cells #[.int .u8 a] 5)) 80 5 Tryz.underlying80 Tryz.underlying5 w.heap.size 0 1 1 [a] rfl (fun i hi => by
    match i, hi with
    | 0, _ => simp) 9 Tryz.underlying9
  exact this
theorem conv2 (a b : Int) (w : World) : (convert 80 9 (.slice (some ⟨w.heap.size, 0, none⟩) 2 2)).run Tryz.prog (w.alloc (.cells #[.int .u8 a, .int .u8 b] 5)) = .ok (.string ⟨#[b8 a, b8 b]⟩) (w.alloc (.cells #[.int .u8 a, .int .u8 b] 5)) := by
  have := run_convert_bytes_arg (P := Tryz.prog) (w.alloc (.cells #[.int .u8 a, .int .u8 b] 5)) 80 5 Tryz.underlying80 Tryz.underlying5 w.heap.size 0 2 2 [a, b] rfl (fun i hi => by
    match i, hi with
    | 0, _ => simp
    | 1, _ => simp) 9 Tryz.underlying9
  exact this
theorem conv3 (a b c : Int) (w : World) : (convert 80 9 (.slice (some ⟨w.heap.size, 0, none⟩) 3 3)).run Tryz.prog (w.alloc (.cells #[.int .u8 a, .int .u8 b, .int .u8 c] 5)) = .ok (.string ⟨#[b8 a, b8 b, b8 c]⟩) (w.alloc (.cells #[.int .u8 a, .int .u8 b, .int .u8 c] 5)) := by
  have := run_convert_bytes_arg (P := Tryz.prog) (w.alloc (.cells #[.int .u8 a, .int .u8 b, .int .u8 c] 5)) 80 5 Tryz.underlying80 Tryz.underlying5 w.heap.size 0 3 3 [a, b, c] rfl (fun i hi => by
    match i, hi with
    | 0, _ => simp
    | 1, _ => simp
    | 2, _ => simp) 9 Tryz.underlying9
  exact this
theorem conv4 (a b c d : Int) (w : World) : (convert 80 9 (.slice (some ⟨w.heap.size, 0, none⟩) 4 4)).run Tryz.prog (w.alloc (.cells #[.int .u8 a, .int .u8 b, .int .u8 c, .int .u8 d] 5)) = .ok (.string ⟨#[b8 a, b8 b, b8 c, b8 d]⟩) (w.alloc (.cells #[.int .u8 a, .int .u8 b, .int .u8 c, .int .u8 d] 5)) := by
  have := run_convert_bytes_arg (P := Tryz.prog) (w.alloc (.cells #[.int .u8 a, .int .u8 b, .int .u8 c, .int .u8 d] 5)) 80 5 Tryz.underlying80 Tryz.underlying5 w.heap.size 0 4 4 [a, b, c, d] rfl (fun i hi => by
    match i, hi with
    | 0, _ => simp
    | 1, _ => simp
    | 2, _ => simp
    | 3, _ => simp) 9 Tryz.underlying9
  exact this

theorem ref_encode (r : Nat) (h : scal r) (w : World) : Calls Tryz.prog 117 #[.int .i32 r] w fun e w' => e = .returned (.string ⟨(enc r).toArray⟩) ∧ Below w.heap.size w w' := by
  have hr : (r : Int) ≤ 1114111 := by unfold scal at h; omega
  have g1 := conv1
  have g2 := conv2
  have g3 := conv3
  have g4 := conv4
  by_cases h1 : r < 128
  · have f1 : (r : Int) < 128 := by omega
    have HE : Hid (enc r = _) := enc_one h1
    clear h g2 g3 g4
    go_enter Tryz.func117, Tryz.ntmps117
    go_wp2
    go_ret
    rw [HE.out]
    exact ⟨rfl, (Below.refl _ _).alloc (Nat.le_refl _) _⟩
  by_cases h2 : r < 2048
  · have f1 : ¬ (r : Int) < 128 := by omega
    have f2 : (r : Int) < 2048 := by omega
    have HE : Hid (enc r = _) := enc_two (by omega) h2
    clear h g1 g3 g4
    go_enter Tryz.func117, Tryz.ntmps117
    go_wp2
    go_ret
    rw [HE.out]
    exact ⟨rfl, (Below.refl _ _).alloc (Nat.le_refl _) _⟩
  by_cases h3 : r < 65536
  · have f1 : ¬ (r : Int) < 128 := by omega
    have f2 : ¬ (r : Int) < 2048 := by omega
    have f3 : (r : Int) < 65536 := by omega
    have HE : Hid (enc r = _) := enc_three (by omega) h3 h
    clear h g1 g2 g4
    go_enter Tryz.func117, Tryz.ntmps117
    go_wp2
    go_ret
    rw [HE.out]
    exact ⟨rfl, (Below.refl _ _).alloc (Nat.le_refl _) _⟩
  · have f1 : ¬ (r : Int) < 128 := by omega
    have f2 : ¬ (r : Int) < 2048 := by omega
    have f3 : ¬ (r : Int) < 65536 := by omega
    have HE : Hid (enc r = _) := enc_four (by omega) (by omega)
    clear h g1 g2 g3
    go_enter Tryz.func117, Tryz.ntmps117
    go_wp2
    go_ret
    rw [HE.out]
    exact ⟨rfl, (Below.refl _ _).alloc (Nat.le_refl _) _⟩

end Go.Proofs.YtfllomfjhkgaoaaGreatDoor

/- What the reference's first answers: the scalar with whose encoding a text begins at a place. -/
namespace Go.Proofs.YtfllomfjhkgaoaaGreatDoor
open Go Go.RowKit Go.Lib Go.PlainAid Go.Sort
set_option linter.unusedVariables false

theorem ne_list {a b : ByteArray} (h : ¬ a = b) : (a.toList == b.toList) = false := by
  rw [toList_data, toList_data]
  refine beq_eq_false_iff_ne.2 fun e => h ?_
  apply ByteArray.ext
  exact Array.ext' e

set_option maxHeartbeats 1000000 in
set_option maxRecDepth 100000 in
theorem rf1_non (s : ByteArray) (k : Nat) (w : World) (hs : s.size ≤ 140737488351232) (hk : k < s.size) (h0 : bt s k < 192) (hI : k + 1 ≤ s.size) (Z : Int) (hz : bt s k = Z) (hn : ¬ isScal Z) :
    Calls Tryz.prog 108 #[.string s, .int .i64 k] w fun e w' => e = .returned (.tuple #[.int .i32 0, .int .i64 0]) ∧ Below w.heap.size w w' := by
  have q0 := bt_nonneg s k
  have r0 := bt_le s k
  have c0 : ¬ bt s k ≥ 240 := by omega
  have c1 : ¬ bt s k ≥ 224 := by omega
  have c2 : ¬ bt s k ≥ 192 := by omega
  have hI' : (k : Int) + 1 ≤ s.size := by omega
  unfold isScal at hn
  exfalso; omega

set_option maxHeartbeats 1000000 in
set_option maxRecDepth 100000 in
theorem rf1_same (s : ByteArray) (k : Nat) (w : World) (hs : s.size ≤ 140737488351232) (hk : k < s.size) (h0 : bt s k < 192) (hI : k + 1 ≤ s.size) (R : Nat) (hr : scal R) (Z : Int) (hZ : Z = R) (hz : bt s k = Z) (hX : s.extract k (k + 1) = ⟨(enc R).toArray⟩) :
    Calls Tryz.prog 108 #[.string s, .int .i64 k] w fun e w' => e = .returned (.tuple #[.int .i32 Z, .int .i64 1]) ∧ Below w.heap.size w w' := by
  have hb := get_bt s
  have q0 := bt_nonneg s k
  have r0 := bt_le s k
  have c0 : ¬ bt s k ≥ 240 := by omega
  have c1 : ¬ bt s k ≥ 224 := by omega
  have c2 : ¬ bt s k ≥ 192 := by omega
  have hI' : (k : Int) + 1 ≤ s.size := by omega
  obtain ⟨E, hE⟩ : ∃ E : ByteArray, ⟨(enc R).toArray⟩ = E := ⟨_, rfl⟩
  have henc := fun W => ref_encode R hr W
  rw [← hZ] at henc
  rw [hE] at hX henc
  have hz0 : (0 : Int) ≤ Z := by omega
  clear h0 hE
  unfold scal at hr
  by_cases hm : R < 55296
  · have g0 : decide (Z ≥ 0) = true := decide_eq_true (by omega)
    have g1 : decide (Z < 55296) = true := decide_eq_true (by omega)
    clear hr hm hZ
    go_enter Tryz.func108, Tryz.ntmps108
    go_wp2
    go_rounds 4
    have hkI : (0 : Int) ≤ k ∧ (k : Int) ≤ k + 1 := by omega
    clear hb q0 r0 c0 c1 c2 hz hz0
    have cE : ∀ d os, Calls Tryz.prog 117 #[.int .i32 Z] (grow (redrawn w d) os) fun e w'' => e = .returned (.string E) ∧ ∃ p : Regrown, w'' = grow (redrawn w p.d) p.os := fun d os => Calls.regrown_of (henc _)
    clear henc
    refine wp_region_quiet_below (by kernel_rfl) (by kernel_rfl) ?_
    repeat (first | go_big_quiet_step (exact cE _ _) | quiet_step (exact cE _ _))
    refine wpQuiet_nil ?_
    intro _ hw'
    obtain ⟨⟨dq, osq⟩, hw''⟩ := hw'
    subst hw''
    go_wp2
    go_ret2
    exact ⟨rfl, below_regrown w dq osq⟩
  · have g0 : decide (Z ≥ 0) = true := decide_eq_true (by omega)
    have g1 : decide (Z < 55296) = false := decide_eq_false (by omega)
    have g2 : decide (Z ≥ 57344) = true := decide_eq_true (by omega)
    have g3 : decide (Z ≤ 1114111) = true := decide_eq_true (by omega)
    clear hr hm hZ
    go_enter Tryz.func108, Tryz.ntmps108
    go_wp2
    go_rounds 4
    have hkI : (0 : Int) ≤ k ∧ (k : Int) ≤ k + 1 := by omega
    clear hb q0 r0 c0 c1 c2 hz hz0
    have cE : ∀ d os, Calls Tryz.prog 117 #[.int .i32 Z] (grow (redrawn w d) os) fun e w'' => e = .returned (.string E) ∧ ∃ p : Regrown, w'' = grow (redrawn w p.d) p.os := fun d os => Calls.regrown_of (henc _)
    clear henc
    refine wp_region_quiet_below (by kernel_rfl) (by kernel_rfl) ?_
    repeat (first | go_big_quiet_step (exact cE _ _) | quiet_step (exact cE _ _))
    refine wpQuiet_nil ?_
    intro _ hw'
    obtain ⟨⟨dq, osq⟩, hw''⟩ := hw'
    subst hw''
    go_wp2
    go_ret2
    exact ⟨rfl, below_regrown w dq osq⟩

set_option maxHeartbeats 1000000 in
set_option maxRecDepth 100000 in
theorem rf1_other (s : ByteArray) (k : Nat) (w : World) (hs : s.size ≤ 140737488351232) (hk : k < s.size) (h0 : bt s k < 192) (hI : k + 1 ≤ s.size) (R : Nat) (hr : scal R) (Z : Int) (hZ : Z = R) (hz : bt s k = Z) (hX : ¬ ⟨(enc R).toArray⟩ = s.extract k (k + 1)) :
    Calls Tryz.prog 108 #[.string s, .int .i64 k] w fun e w' => e = .returned (.tuple #[.int .i32 0, .int .i64 0]) ∧ Below w.heap.size w w' := by
  have hb := get_bt s
  have q0 := bt_nonneg s k
  have r0 := bt_le s k
  have c0 : ¬ bt s k ≥ 240 := by omega
  have c1 : ¬ bt s k ≥ 224 := by omega
  have c2 : ¬ bt s k ≥ 192 := by omega
  have hI' : (k : Int) + 1 ≤ s.size := by omega
  obtain ⟨E, hE⟩ : ∃ E : ByteArray, ⟨(enc R).toArray⟩ = E := ⟨_, rfl⟩
  have henc := fun W => ref_encode R hr W
  rw [← hZ] at henc
  rw [hE] at hX henc
  have hXl := ne_list hX
  have hz0 : (0 : Int) ≤ Z := by omega
  clear h0 hE
  unfold scal at hr
  by_cases hm : R < 55296
  · have g0 : decide (Z ≥ 0) = true := decide_eq_true (by omega)
    have g1 : decide (Z < 55296) = true := decide_eq_true (by omega)
    clear hr hm hZ
    go_enter Tryz.func108, Tryz.ntmps108
    go_wp2
    go_rounds 4
    have hkI : (0 : Int) ≤ k ∧ (k : Int) ≤ k + 1 := by omega
    clear hb q0 r0 c0 c1 c2 hz hz0
    have cE : ∀ d os, Calls Tryz.prog 117 #[.int .i32 Z] (grow (redrawn w d) os) fun e w'' => e = .returned (.string E) ∧ ∃ p : Regrown, w'' = grow (redrawn w p.d) p.os := fun d os => Calls.regrown_of (henc _)
    clear henc
    refine wp_region_quiet_below (by kernel_rfl) (by kernel_rfl) ?_
    repeat (first | go_big_quiet_step (exact cE _ _) | quiet_step (exact cE _ _))
    refine wpQuiet_nil ?_
    intro _ hw'
    obtain ⟨⟨dq, osq⟩, hw''⟩ := hw'
    subst hw''
    go_wp2
    go_ret2
    exact ⟨rfl, below_regrown w dq osq⟩
  · have g0 : decide (Z ≥ 0) = true := decide_eq_true (by omega)
    have g1 : decide (Z < 55296) = false := decide_eq_false (by omega)
    have g2 : decide (Z ≥ 57344) = true := decide_eq_true (by omega)
    have g3 : decide (Z ≤ 1114111) = true := decide_eq_true (by omega)
    clear hr hm hZ
    go_enter Tryz.func108, Tryz.ntmps108
    go_wp2
    go_rounds 4
    have hkI : (0 : Int) ≤ k ∧ (k : Int) ≤ k + 1 := by omega
    clear hb q0 r0 c0 c1 c2 hz hz0
    have cE : ∀ d os, Calls Tryz.prog 117 #[.int .i32 Z] (grow (redrawn w d) os) fun e w'' => e = .returned (.string E) ∧ ∃ p : Regrown, w'' = grow (redrawn w p.d) p.os := fun d os => Calls.regrown_of (henc _)
    clear henc
    refine wp_region_quiet_below (by kernel_rfl) (by kernel_rfl) ?_
    repeat (first | go_big_quiet_step (exact cE _ _) | quiet_step (exact cE _ _))
    refine wpQuiet_nil ?_
    intro _ hw'
    obtain ⟨⟨dq, osq⟩, hw''⟩ := hw'
    subst hw''
    go_wp2
    go_ret2
    exact ⟨rfl, below_regrown w dq osq⟩

theorem rf2_out (s : ByteArray) (k : Nat) (w : World) (hs : s.size ≤ 140737488351232) (hk : k < s.size) (h0 : 192 ≤ bt s k) (h1 : bt s k < 224) (ho : s.size < k + 2) :
    Calls Tryz.prog 108 #[.string s, .int .i64 k] w fun e w' => e = .returned (.tuple #[.int .i32 0, .int .i64 0]) ∧ Below w.heap.size w w' := by
  have hb := get_bt s
  have q0 := bt_nonneg s k
  have r0 := bt_le s k
  have c0 : ¬ bt s k ≥ 240 := by omega
  have c1 : ¬ bt s k ≥ 224 := by omega
  have c2 : bt s k ≥ 192 := by omega
  have hI : ¬ (k : Int) + 2 ≤ s.size := by omega
  clear h0 h1
  go_enter Tryz.func108, Tryz.ntmps108
  go_wp2
  go_ret2
  exact ⟨rfl, Below.refl _ _⟩

set_option maxHeartbeats 1000000 in
set_option maxRecDepth 100000 in
theorem rf2_non (s : ByteArray) (k : Nat) (w : World) (hs : s.size ≤ 140737488351232) (hk : k < s.size) (h0 : 192 ≤ bt s k) (h1 : bt s k < 224) (hI : k + 2 ≤ s.size) (Z : Int) (hz : (bt s k - 192) * 64 + bt s (k + 1) % 64 = Z) (hn : ¬ isScal Z) :
    Calls Tryz.prog 108 #[.string s, .int .i64 k] w fun e w' => e = .returned (.tuple #[.int .i32 0, .int .i64 0]) ∧ Below w.heap.size w w' := by
  have q0 := bt_nonneg s k
  have r0 := bt_le s k
  have q1 := bt_nonneg s (k + 1)
  have r1 := bt_le s (k + 1)
  have c0 : ¬ bt s k ≥ 240 := by omega
  have c1 : ¬ bt s k ≥ 224 := by omega
  have c2 : bt s k ≥ 192 := by omega
  have hI' : (k : Int) + 2 ≤ s.size := by omega
  unfold isScal at hn
  exfalso; omega

set_option maxHeartbeats 1000000 in
set_option maxRecDepth 100000 in
theorem rf2_same (s : ByteArray) (k : Nat) (w : World) (hs : s.size ≤ 140737488351232) (hk : k < s.size) (h0 : 192 ≤ bt s k) (h1 : bt s k < 224) (hI : k + 2 ≤ s.size) (R : Nat) (hr : scal R) (Z : Int) (hZ : Z = R) (hz : (bt s k - 192) * 64 + bt s (k + 1) % 64 = Z) (hX : s.extract k (k + 2) = ⟨(enc R).toArray⟩) :
    Calls Tryz.prog 108 #[.string s, .int .i64 k] w fun e w' => e = .returned (.tuple #[.int .i32 Z, .int .i64 2]) ∧ Below w.heap.size w w' := by
  have hb := get_bt s
  have q0 := bt_nonneg s k
  have r0 := bt_le s k
  have q1 := bt_nonneg s (k + 1)
  have r1 := bt_le s (k + 1)
  have c0 : ¬ bt s k ≥ 240 := by omega
  have c1 : ¬ bt s k ≥ 224 := by omega
  have c2 : bt s k ≥ 192 := by omega
  have hI' : (k : Int) + 2 ≤ s.size := by omega
  obtain ⟨E, hE⟩ : ∃ E : ByteArray, ⟨(enc R).toArray⟩ = E := ⟨_, rfl⟩
  have henc := fun W => ref_encode R hr W
  rw [← hZ] at henc
  rw [hE] at hX henc
  have hz0 : (0 : Int) ≤ Z := by omega
  clear h0 h1 hE
  unfold scal at hr
  by_cases hm : R < 55296
  · have g0 : decide (Z ≥ 0) = true := decide_eq_true (by omega)
    have g1 : decide (Z < 55296) = true := decide_eq_true (by omega)
    clear hr hm hZ
    go_enter Tryz.func108, Tryz.ntmps108
    go_wp2
    go_rounds 4
    have hkI : (0 : Int) ≤ k ∧ (k : Int) ≤ k + 2 := by omega
    clear hb q0 r0 q1 r1 c0 c1 c2 hz hz0
    have cE : ∀ d os, Calls Tryz.prog 117 #[.int .i32 Z] (grow (redrawn w d) os) fun e w'' => e = .returned (.string E) ∧ ∃ p : Regrown, w'' = grow (redrawn w p.d) p.os := fun d os => Calls.regrown_of (henc _)
    clear henc
    refine wp_region_quiet_below (by kernel_rfl) (by kernel_rfl) ?_
    repeat (first | go_big_quiet_step (exact cE _ _) | quiet_step (exact cE _ _))
    refine wpQuiet_nil ?_
    intro _ hw'
    obtain ⟨⟨dq, osq⟩, hw''⟩ := hw'
    subst hw''
    go_wp2
    go_ret2
    exact ⟨rfl, below_regrown w dq osq⟩
  · have g0 : decide (Z ≥ 0) = true := decide_eq_true (by omega)
    have g1 : decide (Z < 55296) = false := decide_eq_false (by omega)
    have g2 : decide (Z ≥ 57344) = true := decide_eq_true (by omega)
    have g3 : decide (Z ≤ 1114111) = true := decide_eq_true (by omega)
    clear hr hm hZ
    go_enter Tryz.func108, Tryz.ntmps108
    go_wp2
    go_rounds 4
    have hkI : (0 : Int) ≤ k ∧ (k : Int) ≤ k + 2 := by omega
    clear hb q0 r0 q1 r1 c0 c1 c2 hz hz0
    have cE : ∀ d os, Calls Tryz.prog 117 #[.int .i32 Z] (grow (redrawn w d) os) fun e w'' => e = .returned (.string E) ∧ ∃ p : Regrown, w'' = grow (redrawn w p.d) p.os := fun d os => Calls.regrown_of (henc _)
    clear henc
    refine wp_region_quiet_below (by kernel_rfl) (by kernel_rfl) ?_
    repeat (first | go_big_quiet_step (exact cE _ _) | quiet_step (exact cE _ _))
    refine wpQuiet_nil ?_
    intro _ hw'
    obtain ⟨⟨dq, osq⟩, hw''⟩ := hw'
    subst hw''
    go_wp2
    go_ret2
    exact ⟨rfl, below_regrown w dq osq⟩

set_option maxHeartbeats 1000000 in
set_option maxRecDepth 100000 in
theorem rf2_other (s : ByteArray) (k : Nat) (w : World) (hs : s.size ≤ 140737488351232) (hk : k < s.size) (h0 : 192 ≤ bt s k) (h1 : bt s k < 224) (hI : k + 2 ≤ s.size) (R : Nat) (hr : scal R) (Z : Int) (hZ : Z = R) (hz : (bt s k - 192) * 64 + bt s (k + 1) % 64 = Z) (hX : ¬ ⟨(enc R).toArray⟩ = s.extract k (k + 2)) :
    Calls Tryz.prog 108 #[.string s, .int .i64 k] w fun e w' => e = .returned (.tuple #[.int .i32 0, .int .i64 0]) ∧ Below w.heap.size w w' := by
  have hb := get_bt s
  have q0 := bt_nonneg s k
  have r0 := bt_le s k
  have q1 := bt_nonneg s (k + 1)
  have r1 := bt_le s (k + 1)
  have c0 : ¬ bt s k ≥ 240 := by omega
  have c1 : ¬ bt s k ≥ 224 := by omega
  have c2 : bt s k ≥ 192 := by omega
  have hI' : (k : Int) + 2 ≤ s.size := by omega
  obtain ⟨E, hE⟩ : ∃ E : ByteArray, ⟨(enc R).toArray⟩ = E := ⟨_, rfl⟩
  have henc := fun W => ref_encode R hr W
  rw [← hZ] at henc
  rw [hE] at hX henc
  have hXl := ne_list hX
  have hz0 : (0 : Int) ≤ Z := by omega
  clear h0 h1 hE
  unfold scal at hr
  by_cases hm : R < 55296
  · have g0 : decide (Z ≥ 0) = true := decide_eq_true (by omega)
    have g1 : decide (Z < 55296) = true := decide_eq_true (by omega)
    clear hr hm hZ
    go_enter Tryz.func108, Tryz.ntmps108
    go_wp2
    go_rounds 4
    have hkI : (0 : Int) ≤ k ∧ (k : Int) ≤ k + 2 := by omega
    clear hb q0 r0 q1 r1 c0 c1 c2 hz hz0
    have cE : ∀ d os, Calls Tryz.prog 117 #[.int .i32 Z] (grow (redrawn w d) os) fun e w'' => e = .returned (.string E) ∧ ∃ p : Regrown, w'' = grow (redrawn w p.d) p.os := fun d os => Calls.regrown_of (henc _)
    clear henc
    refine wp_region_quiet_below (by kernel_rfl) (by kernel_rfl) ?_
    repeat (first | go_big_quiet_step (exact cE _ _) | quiet_step (exact cE _ _))
    refine wpQuiet_nil ?_
    intro _ hw'
    obtain ⟨⟨dq, osq⟩, hw''⟩ := hw'
    subst hw''
    go_wp2
    go_ret2
    exact ⟨rfl, below_regrown w dq osq⟩
  · have g0 : decide (Z ≥ 0) = true := decide_eq_true (by omega)
    have g1 : decide (Z < 55296) = false := decide_eq_false (by omega)
    have g2 : decide (Z ≥ 57344) = true := decide_eq_true (by omega)
    have g3 : decide (Z ≤ 1114111) = true := decide_eq_true (by omega)
    clear hr hm hZ
    go_enter Tryz.func108, Tryz.ntmps108
    go_wp2
    go_rounds 4
    have hkI : (0 : Int) ≤ k ∧ (k : Int) ≤ k + 2 := by omega
    clear hb q0 r0 q1 r1 c0 c1 c2 hz hz0
    have cE : ∀ d os, Calls Tryz.prog 117 #[.int .i32 Z] (grow (redrawn w d) os) fun e w'' => e = .returned (.string E) ∧ ∃ p : Regrown, w'' = grow (redrawn w p.d) p.os := fun d os => Calls.regrown_of (henc _)
    clear henc
    refine wp_region_quiet_below (by kernel_rfl) (by kernel_rfl) ?_
    repeat (first | go_big_quiet_step (exact cE _ _) | quiet_step (exact cE _ _))
    refine wpQuiet_nil ?_
    intro _ hw'
    obtain ⟨⟨dq, osq⟩, hw''⟩ := hw'
    subst hw''
    go_wp2
    go_ret2
    exact ⟨rfl, below_regrown w dq osq⟩

theorem rf3_out (s : ByteArray) (k : Nat) (w : World) (hs : s.size ≤ 140737488351232) (hk : k < s.size) (h0 : 224 ≤ bt s k) (h1 : bt s k < 240) (ho : s.size < k + 3) :
    Calls Tryz.prog 108 #[.string s, .int .i64 k] w fun e w' => e = .returned (.tuple #[.int .i32 0, .int .i64 0]) ∧ Below w.heap.size w w' := by
  have hb := get_bt s
  have q0 := bt_nonneg s k
  have r0 := bt_le s k
  have c0 : ¬ bt s k ≥ 240 := by omega
  have c1 : bt s k ≥ 224 := by omega
  have hI : ¬ (k : Int) + 3 ≤ s.size := by omega
  clear h0 h1
  go_enter Tryz.func108, Tryz.ntmps108
  go_wp2
  go_ret2
  exact ⟨rfl, Below.refl _ _⟩

set_option maxHeartbeats 1000000 in
set_option maxRecDepth 100000 in
theorem rf3_non (s : ByteArray) (k : Nat) (w : World) (hs : s.size ≤ 140737488351232) (hk : k < s.size) (h0 : 224 ≤ bt s k) (h1 : bt s k < 240) (hI : k + 3 ≤ s.size) (Z : Int) (hz : ((bt s k - 224) * 64 + bt s (k + 1) % 64) * 64 + bt s (k + 2) % 64 = Z) (hn : ¬ isScal Z) :
    Calls Tryz.prog 108 #[.string s, .int .i64 k] w fun e w' => e = .returned (.tuple #[.int .i32 0, .int .i64 0]) ∧ Below w.heap.size w w' := by
  have hb := get_bt s
  have q0 := bt_nonneg s k
  have r0 := bt_le s k
  have q1 := bt_nonneg s (k + 1)
  have r1 := bt_le s (k + 1)
  have q2 := bt_nonneg s (k + 2)
  have r2 := bt_le s (k + 2)
  have c0 : ¬ bt s k ≥ 240 := by omega
  have c1 : bt s k ≥ 224 := by omega
  have hI' : (k : Int) + 3 ≤ s.size := by omega
  have hz0 : 0 ≤ Z := by omega
  unfold isScal at hn
  clear h0 h1
  by_cases hm : Z < 57344
  · have g0 : decide (Z ≥ 0) = true := decide_eq_true (by omega)
    have g1 : decide (Z < 55296) = false := decide_eq_false (by omega)
    have g2 : decide (Z ≥ 57344) = false := decide_eq_false (by omega)
    clear hn hm
    go_enter Tryz.func108, Tryz.ntmps108
    go_wp2
    go_rounds 4
    go_quiet (fail)
    go_wp2
    go_ret2
    exact ⟨rfl, below_drewN (Below.refl _ _) _⟩
  · exfalso; omega

set_option maxHeartbeats 1000000 in
set_option maxRecDepth 100000 in
theorem rf3_same (s : ByteArray) (k : Nat) (w : World) (hs : s.size ≤ 140737488351232) (hk : k < s.size) (h0 : 224 ≤ bt s k) (h1 : bt s k < 240) (hI : k + 3 ≤ s.size) (R : Nat) (hr : scal R) (Z : Int) (hZ : Z = R) (hz : ((bt s k - 224) * 64 + bt s (k + 1) % 64) * 64 + bt s (k + 2) % 64 = Z) (hX : s.extract k (k + 3) = ⟨(enc R).toArray⟩) :
    Calls Tryz.prog 108 #[.string s, .int .i64 k] w fun e w' => e = .returned (.tuple #[.int .i32 Z, .int .i64 3]) ∧ Below w.heap.size w w' := by
  have hb := get_bt s
  have q0 := bt_nonneg s k
  have r0 := bt_le s k
  have q1 := bt_nonneg s (k + 1)
  have r1 := bt_le s (k + 1)
  have q2 := bt_nonneg s (k + 2)
  have r2 := bt_le s (k + 2)
  have c0 : ¬ bt s k ≥ 240 := by omega
  have c1 : bt s k ≥ 224 := by omega
  have hI' : (k : Int) + 3 ≤ s.size := by omega
  obtain ⟨E, hE⟩ : ∃ E : ByteArray, ⟨(enc R).toArray⟩ = E := ⟨_, rfl⟩
  have henc := fun W => ref_encode R hr W
  rw [← hZ] at henc
  rw [hE] at hX henc
  have hz0 : (0 : Int) ≤ Z := by omega
  clear h0 h1 hE
  unfold scal at hr
  by_cases hm : R < 55296
  · have g0 : decide (Z ≥ 0) = true := decide_eq_true (by omega)
    have g1 : decide (Z < 55296) = true := decide_eq_true (by omega)
    clear hr hm hZ
    go_enter Tryz.func108, Tryz.ntmps108
    go_wp2
    go_rounds 4
    have hkI : (0 : Int) ≤ k ∧ (k : Int) ≤ k + 3 := by omega
    clear hb q0 r0 q1 r1 q2 r2 c0 c1 hz hz0
    have cE : ∀ d os, Calls Tryz.prog 117 #[.int .i32 Z] (grow (redrawn w d) os) fun e w'' => e = .returned (.string E) ∧ ∃ p : Regrown, w'' = grow (redrawn w p.d) p.os := fun d os => Calls.regrown_of (henc _)
    clear henc
    refine wp_region_quiet_below (by kernel_rfl) (by kernel_rfl) ?_
    repeat (first | go_big_quiet_step (exact cE _ _) | quiet_step (exact cE _ _))
    refine wpQuiet_nil ?_
    intro _ hw'
    obtain ⟨⟨dq, osq⟩, hw''⟩ := hw'
    subst hw''
    go_wp2
    go_ret2
    exact ⟨rfl, below_regrown w dq osq⟩
  · have g0 : decide (Z ≥ 0) = true := decide_eq_true (by omega)
    have g1 : decide (Z < 55296) = false := decide_eq_false (by omega)
    have g2 : decide (Z ≥ 57344) = true := decide_eq_true (by omega)
    have g3 : decide (Z ≤ 1114111) = true := decide_eq_true (by omega)
    clear hr hm hZ
    go_enter Tryz.func108, Tryz.ntmps108
    go_wp2
    go_rounds 4
    have hkI : (0 : Int) ≤ k ∧ (k : Int) ≤ k + 3 := by omega
    clear hb q0 r0 q1 r1 q2 r2 c0 c1 hz hz0
    have cE : ∀ d os, Calls Tryz.prog 117 #[.int .i32 Z] (grow (redrawn w d) os) fun e w'' => e = .returned (.string E) ∧ ∃ p : Regrown, w'' = grow (redrawn w p.d) p.os := fun d os => Calls.regrown_of (henc _)
    clear henc
    refine wp_region_quiet_below (by kernel_rfl) (by kernel_rfl) ?_
    repeat (first | go_big_quiet_step (exact cE _ _) | quiet_step (exact cE _ _))
    refine wpQuiet_nil ?_
    intro _ hw'
    obtain ⟨⟨dq, osq⟩, hw''⟩ := hw'
    subst hw''
    go_wp2
    go_ret2
    exact ⟨rfl, below_regrown w dq osq⟩

set_option maxHeartbeats 1000000 in
set_option maxRecDepth 100000 in
theorem rf3_other (s : ByteArray) (k : Nat) (w : World) (hs : s.size ≤ 140737488351232) (hk : k < s.size) (h0 : 224 ≤ bt s k) (h1 : bt s k < 240) (hI : k + 3 ≤ s.size) (R : Nat) (hr : scal R) (Z : Int) (hZ : Z = R) (hz : ((bt s k - 224) * 64 + bt s (k + 1) % 64) * 64 + bt s (k + 2) % 64 = Z) (hX : ¬ ⟨(enc R).toArray⟩ = s.extract k (k + 3)) :
    Calls Tryz.prog 108 #[.string s, .int .i64 k] w fun e w' => e = .returned (.tuple #[.int .i32 0, .int .i64 0]) ∧ Below w.heap.size w w' := by
  have hb := get_bt s
  have q0 := bt_nonneg s k
  have r0 := bt_le s k
  have q1 := bt_nonneg s (k + 1)
  have r1 := bt_le s (k + 1)
  have q2 := bt_nonneg s (k + 2)
  have r2 := bt_le s (k + 2)
  have c0 : ¬ bt s k ≥ 240 := by omega
  have c1 : bt s k ≥ 224 := by omega
  have hI' : (k : Int) + 3 ≤ s.size := by omega
  obtain ⟨E, hE⟩ : ∃ E : ByteArray, ⟨(enc R).toArray⟩ = E := ⟨_, rfl⟩
  have henc := fun W => ref_encode R hr W
  rw [← hZ] at henc
  rw [hE] at hX henc
  have hXl := ne_list hX
  have hz0 : (0 : Int) ≤ Z := by omega
  clear h0 h1 hE
  unfold scal at hr
  by_cases hm : R < 55296
  · have g0 : decide (Z ≥ 0) = true := decide_eq_true (by omega)
    have g1 : decide (Z < 55296) = true := decide_eq_true (by omega)
    clear hr hm hZ
    go_enter Tryz.func108, Tryz.ntmps108
    go_wp2
    go_rounds 4
    have hkI : (0 : Int) ≤ k ∧ (k : Int) ≤ k + 3 := by omega
    clear hb q0 r0 q1 r1 q2 r2 c0 c1 hz hz0
    have cE : ∀ d os, Calls Tryz.prog 117 #[.int .i32 Z] (grow (redrawn w d) os) fun e w'' => e = .returned (.string E) ∧ ∃ p : Regrown, w'' = grow (redrawn w p.d) p.os := fun d os => Calls.regrown_of (henc _)
    clear henc
    refine wp_region_quiet_below (by kernel_rfl) (by kernel_rfl) ?_
    repeat (first | go_big_quiet_step (exact cE _ _) | quiet_step (exact cE _ _))
    refine wpQuiet_nil ?_
    intro _ hw'
    obtain ⟨⟨dq, osq⟩, hw''⟩ := hw'
    subst hw''
    go_wp2
    go_ret2
    exact ⟨rfl, below_regrown w dq osq⟩
  · have g0 : decide (Z ≥ 0) = true := decide_eq_true (by omega)
    have g1 : decide (Z < 55296) = false := decide_eq_false (by omega)
    have g2 : decide (Z ≥ 57344) = true := decide_eq_true (by omega)
    have g3 : decide (Z ≤ 1114111) = true := decide_eq_true (by omega)
    clear hr hm hZ
    go_enter Tryz.func108, Tryz.ntmps108
    go_wp2
    go_rounds 4
    have hkI : (0 : Int) ≤ k ∧ (k : Int) ≤ k + 3 := by omega
    clear hb q0 r0 q1 r1 q2 r2 c0 c1 hz hz0
    have cE : ∀ d os, Calls Tryz.prog 117 #[.int .i32 Z] (grow (redrawn w d) os) fun e w'' => e = .returned (.string E) ∧ ∃ p : Regrown, w'' = grow (redrawn w p.d) p.os := fun d os => Calls.regrown_of (henc _)
    clear henc
    refine wp_region_quiet_below (by kernel_rfl) (by kernel_rfl) ?_
    repeat (first | go_big_quiet_step (exact cE _ _) | quiet_step (exact cE _ _))
    refine wpQuiet_nil ?_
    intro _ hw'
    obtain ⟨⟨dq, osq⟩, hw''⟩ := hw'
    subst hw''
    go_wp2
    go_ret2
    exact ⟨rfl, below_regrown w dq osq⟩

theorem rf4_out (s : ByteArray) (k : Nat) (w : World) (hs : s.size ≤ 140737488351232) (hk : k < s.size) (h0 : 240 ≤ bt s k) (ho : s.size < k + 4) :
    Calls Tryz.prog 108 #[.string s, .int .i64 k] w fun e w' => e = .returned (.tuple #[.int .i32 0, .int .i64 0]) ∧ Below w.heap.size w w' := by
  have hb := get_bt s
  have q0 := bt_nonneg s k
  have r0 := bt_le s k
  have c0 : bt s k ≥ 240 := by omega
  have hI : ¬ (k : Int) + 4 ≤ s.size := by omega
  clear h0
  go_enter Tryz.func108, Tryz.ntmps108
  go_wp2
  go_ret2
  exact ⟨rfl, Below.refl _ _⟩

set_option maxHeartbeats 1000000 in
set_option maxRecDepth 100000 in
theorem rf4_non (s : ByteArray) (k : Nat) (w : World) (hs : s.size ≤ 140737488351232) (hk : k < s.size) (h0 : 240 ≤ bt s k) (hI : k + 4 ≤ s.size) (Z : Int) (hz : (((bt s k - 240) * 64 + bt s (k + 1) % 64) * 64 + bt s (k + 2) % 64) * 64 + bt s (k + 3) % 64 = Z) (hn : ¬ isScal Z) :
    Calls Tryz.prog 108 #[.string s, .int .i64 k] w fun e w' => e = .returned (.tuple #[.int .i32 0, .int .i64 0]) ∧ Below w.heap.size w w' := by
  have hb := get_bt s
  have q0 := bt_nonneg s k
  have r0 := bt_le s k
  have q1 := bt_nonneg s (k + 1)
  have r1 := bt_le s (k + 1)
  have q2 := bt_nonneg s (k + 2)
  have r2 := bt_le s (k + 2)
  have q3 := bt_nonneg s (k + 3)
  have r3 := bt_le s (k + 3)
  have c0 : bt s k ≥ 240 := by omega
  have hI' : (k : Int) + 4 ≤ s.size := by omega
  have hz0 : 0 ≤ Z := by omega
  unfold isScal at hn
  clear h0
  by_cases hm : Z < 57344
  · have g0 : decide (Z ≥ 0) = true := decide_eq_true (by omega)
    have g1 : decide (Z < 55296) = false := decide_eq_false (by omega)
    have g2 : decide (Z ≥ 57344) = false := decide_eq_false (by omega)
    clear hn hm
    go_enter Tryz.func108, Tryz.ntmps108
    go_wp2
    go_rounds 4
    go_quiet (fail)
    go_wp2
    go_ret2
    exact ⟨rfl, below_drewN (Below.refl _ _) _⟩
  · have g0 : decide (Z ≥ 0) = true := decide_eq_true (by omega)
    have g1 : decide (Z < 55296) = false := decide_eq_false (by omega)
    have g2 : decide (Z ≥ 57344) = true := decide_eq_true (by omega)
    have g3 : decide (Z ≤ 1114111) = false := decide_eq_false (by omega)
    clear hn hm
    go_enter Tryz.func108, Tryz.ntmps108
    go_wp2
    go_rounds 4
    go_quiet (fail)
    go_wp2
    go_ret2
    exact ⟨rfl, below_drewN (Below.refl _ _) _⟩

set_option maxHeartbeats 1000000 in
set_option maxRecDepth 100000 in
theorem rf4_same (s : ByteArray) (k : Nat) (w : World) (hs : s.size ≤ 140737488351232) (hk : k < s.size) (h0 : 240 ≤ bt s k) (hI : k + 4 ≤ s.size) (R : Nat) (hr : scal R) (Z : Int) (hZ : Z = R) (hz : (((bt s k - 240) * 64 + bt s (k + 1) % 64) * 64 + bt s (k + 2) % 64) * 64 + bt s (k + 3) % 64 = Z) (hX : s.extract k (k + 4) = ⟨(enc R).toArray⟩) :
    Calls Tryz.prog 108 #[.string s, .int .i64 k] w fun e w' => e = .returned (.tuple #[.int .i32 Z, .int .i64 4]) ∧ Below w.heap.size w w' := by
  have hb := get_bt s
  have q0 := bt_nonneg s k
  have r0 := bt_le s k
  have q1 := bt_nonneg s (k + 1)
  have r1 := bt_le s (k + 1)
  have q2 := bt_nonneg s (k + 2)
  have r2 := bt_le s (k + 2)
  have q3 := bt_nonneg s (k + 3)
  have r3 := bt_le s (k + 3)
  have c0 : bt s k ≥ 240 := by omega
  have hI' : (k : Int) + 4 ≤ s.size := by omega
  obtain ⟨E, hE⟩ : ∃ E : ByteArray, ⟨(enc R).toArray⟩ = E := ⟨_, rfl⟩
  have henc := fun W => ref_encode R hr W
  rw [← hZ] at henc
  rw [hE] at hX henc
  have hz0 : (0 : Int) ≤ Z := by omega
  clear h0 hE
  unfold scal at hr
  by_cases hm : R < 55296
  · have g0 : decide (Z ≥ 0) = true := decide_eq_true (by omega)
    have g1 : decide (Z < 55296) = true := decide_eq_true (by omega)
    clear hr hm hZ
    go_enter Tryz.func108, Tryz.ntmps108
    go_wp2
    go_rounds 4
    have hkI : (0 : Int) ≤ k ∧ (k : Int) ≤ k + 4 := by omega
    clear hb q0 r0 q1 r1 q2 r2 q3 r3 c0 hz hz0
    have cE : ∀ d os, Calls Tryz.prog 117 #[.int .i32 Z] (grow (redrawn w d) os) fun e w'' => e = .returned (.string E) ∧ ∃ p : Regrown, w'' = grow (redrawn w p.d) p.os := fun d os => Calls.regrown_of (henc _)
    clear henc
    refine wp_region_quiet_below (by kernel_rfl) (by kernel_rfl) ?_
    repeat (first | go_big_quiet_step (exact cE _ _) | quiet_step (exact cE _ _))
    refine wpQuiet_nil ?_
    intro _ hw'
    obtain ⟨⟨dq, osq⟩, hw''⟩ := hw'
    subst hw''
    go_wp2
    go_ret2
    exact ⟨rfl, below_regrown w dq osq⟩
  · have g0 : decide (Z ≥ 0) = true := decide_eq_true (by omega)
    have g1 : decide (Z < 55296) = false := decide_eq_false (by omega)
    have g2 : decide (Z ≥ 57344) = true := decide_eq_true (by omega)
    have g3 : decide (Z ≤ 1114111) = true := decide_eq_true (by omega)
    clear hr hm hZ
    go_enter Tryz.func108, Tryz.ntmps108
    go_wp2
    go_rounds 4
    have hkI : (0 : Int) ≤ k ∧ (k : Int) ≤ k + 4 := by omega
    clear hb q0 r0 q1 r1 q2 r2 q3 r3 c0 hz hz0
    have cE : ∀ d os, Calls Tryz.prog 117 #[.int .i32 Z] (grow (redrawn w d) os) fun e w'' => e = .returned (.string E) ∧ ∃ p : Regrown, w'' = grow (redrawn w p.d) p.os := fun d os => Calls.regrown_of (henc _)
    clear henc
    refine wp_region_quiet_below (by kernel_rfl) (by kernel_rfl) ?_
    repeat (first | go_big_quiet_step (exact cE _ _) | quiet_step (exact cE _ _))
    refine wpQuiet_nil ?_
    intro _ hw'
    obtain ⟨⟨dq, osq⟩, hw''⟩ := hw'
    subst hw''
    go_wp2
    go_ret2
    exact ⟨rfl, below_regrown w dq osq⟩

set_option maxHeartbeats 1000000 in
set_option maxRecDepth 100000 in
theorem rf4_other (s : ByteArray) (k : Nat) (w : World) (hs : s.size ≤ 140737488351232) (hk : k < s.size) (h0 : 240 ≤ bt s k) (hI : k + 4 ≤ s.size) (R : Nat) (hr : scal R) (Z : Int) (hZ : Z = R) (hz : (((bt s k - 240) * 64 + bt s (k + 1) % 64) * 64 + bt s (k + 2) % 64) * 64 + bt s (k + 3) % 64 = Z) (hX : ¬ ⟨(enc R).toArray⟩ = s.extract k (k + 4)) :
    Calls Tryz.prog 108 #[.string s, .int .i64 k] w fun e w' => e = .returned (.tuple #[.int .i32 0, .int .i64 0]) ∧ Below w.heap.size w w' := by
  have hb := get_bt s
  have q0 := bt_nonneg s k
  have r0 := bt_le s k
  have q1 := bt_nonneg s (k + 1)
  have r1 := bt_le s (k + 1)
  have q2 := bt_nonneg s (k + 2)
  have r2 := bt_le s (k + 2)
  have q3 := bt_nonneg s (k + 3)
  have r3 := bt_le s (k + 3)
  have c0 : bt s k ≥ 240 := by omega
  have hI' : (k : Int) + 4 ≤ s.size := by omega
  obtain ⟨E, hE⟩ : ∃ E : ByteArray, ⟨(enc R).toArray⟩ = E := ⟨_, rfl⟩
  have henc := fun W => ref_encode R hr W
  rw [← hZ] at henc
  rw [hE] at hX henc
  have hXl := ne_list hX
  have hz0 : (0 : Int) ≤ Z := by omega
  clear h0 hE
  unfold scal at hr
  by_cases hm : R < 55296
  · have g0 : decide (Z ≥ 0) = true := decide_eq_true (by omega)
    have g1 : decide (Z < 55296) = true := decide_eq_true (by omega)
    clear hr hm hZ
    go_enter Tryz.func108, Tryz.ntmps108
    go_wp2
    go_rounds 4
    have hkI : (0 : Int) ≤ k ∧ (k : Int) ≤ k + 4 := by omega
    clear hb q0 r0 q1 r1 q2 r2 q3 r3 c0 hz hz0
    have cE : ∀ d os, Calls Tryz.prog 117 #[.int .i32 Z] (grow (redrawn w d) os) fun e w'' => e = .returned (.string E) ∧ ∃ p : Regrown, w'' = grow (redrawn w p.d) p.os := fun d os => Calls.regrown_of (henc _)
    clear henc
    refine wp_region_quiet_below (by kernel_rfl) (by kernel_rfl) ?_
    repeat (first | go_big_quiet_step (exact cE _ _) | quiet_step (exact cE _ _))
    refine wpQuiet_nil ?_
    intro _ hw'
    obtain ⟨⟨dq, osq⟩, hw''⟩ := hw'
    subst hw''
    go_wp2
    go_ret2
    exact ⟨rfl, below_regrown w dq osq⟩
  · have g0 : decide (Z ≥ 0) = true := decide_eq_true (by omega)
    have g1 : decide (Z < 55296) = false := decide_eq_false (by omega)
    have g2 : decide (Z ≥ 57344) = true := decide_eq_true (by omega)
    have g3 : decide (Z ≤ 1114111) = true := decide_eq_true (by omega)
    clear hr hm hZ
    go_enter Tryz.func108, Tryz.ntmps108
    go_wp2
    go_rounds 4
    have hkI : (0 : Int) ≤ k ∧ (k : Int) ≤ k + 4 := by omega
    clear hb q0 r0 q1 r1 q2 r2 q3 r3 c0 hz hz0
    have cE : ∀ d os, Calls Tryz.prog 117 #[.int .i32 Z] (grow (redrawn w d) os) fun e w'' => e = .returned (.string E) ∧ ∃ p : Regrown, w'' = grow (redrawn w p.d) p.os := fun d os => Calls.regrown_of (henc _)
    clear henc
    refine wp_region_quiet_below (by kernel_rfl) (by kernel_rfl) ?_
    repeat (first | go_big_quiet_step (exact cE _ _) | quiet_step (exact cE _ _))
    refine wpQuiet_nil ?_
    intro _ hw'
    obtain ⟨⟨dq, osq⟩, hw''⟩ := hw'
    subst hw''
    go_wp2
    go_ret2
    exact ⟨rfl, below_regrown w dq osq⟩

end Go.Proofs.YtfllomfjhkgaoaaGreatDoor

/- What the reference's first and decode answer. -/
namespace Go.Proofs.YtfllomfjhkgaoaaGreatDoor
open Go Go.RowKit Go.Lib Go.PlainAid
set_option linter.unusedVariables false

theorem bt_at (s : ByteArray) (k j : Nat) (x : UInt8) (h : (s.data.toList.drop k)[j]? = some x) : bt s (k + j) = (x.toNat : Int) ∧ k + j < s.size := by
  rw [List.getElem?_drop] at h
  obtain ⟨h1, h2⟩ := List.getElem?_eq_some_iff.1 h
  rw [size_toList] at h1
  refine ⟨?_, h1⟩
  unfold bt
  rw [dif_pos h1, ← h2]
  rfl

theorem bt_enc (s : ByteArray) (k j : Nat) (z : Int) (l : List UInt8) (hz0 : 0 ≤ z) (hz1 : z < 256) (hd : s.data.toList.drop k = l) (h : l[j]? = some z.toNat.toUInt8) : bt s (k + j) = z ∧ k + j < s.size := by
  obtain ⟨h1, h2⟩ := bt_at s k j _ (by rw [hd]; exact h)
  rw [u8_nat _ hz0 hz1] at h1
  exact ⟨by omega, h2⟩

theorem ref_first_ok (s : ByteArray) (k : Nat) (w : World) (hs : s.size ≤ 140737488351232) (r : Nat) (h : scal r) (t : List UInt8) (hd : s.data.toList.drop k = enc r ++ t) :
    Calls Tryz.prog 108 #[.string s, .int .i64 k] w fun e w' => e = .returned (.tuple #[.int .i32 r, .int .i64 ((enc r).length : Nat)]) ∧ Below w.heap.size w w' := by
  have hX : s.extract k (k + (enc r).length) = ⟨(enc r).toArray⟩ := extract_of s (enc r) k (k + (enc r).length) (by rw [hd, Nat.add_sub_cancel_left, List.take_left])
  have hh := h
  unfold scal at hh
  by_cases h1 : r < 128
  · have e := enc_one h1
    rw [e] at hd
    obtain ⟨a0, s0⟩ := bt_enc s k 0 _ _ (by omega) (by omega) hd rfl
    rw [Nat.add_zero] at a0 s0
    have hl : (enc r).length = 1 := by rw [e]; rfl
    rw [hl] at hX ⊢
    exact rf1_same s k w hs s0 (by omega) s0 r h r rfl (by omega) hX
  by_cases h2 : r < 2048
  · have e := enc_two (by omega) h2
    rw [e] at hd
    obtain ⟨a0, s0⟩ := bt_enc s k 0 _ _ (by omega) (by omega) hd rfl
    obtain ⟨a1, s1⟩ := bt_enc s k 1 _ _ (by omega) (by omega) hd rfl
    rw [Nat.add_zero] at a0 s0
    have hl : (enc r).length = 2 := by rw [e]; rfl
    rw [hl] at hX ⊢
    exact rf2_same s k w hs s0 (by omega) (by omega) s1 r h r rfl (by omega) hX
  by_cases h3 : r < 65536
  · have e := enc_three (by omega) h3 h
    rw [e] at hd
    obtain ⟨a0, s0⟩ := bt_enc s k 0 _ _ (by omega) (by omega) hd rfl
    obtain ⟨a1, s1⟩ := bt_enc s k 1 _ _ (by omega) (by omega) hd rfl
    obtain ⟨a2, s2⟩ := bt_enc s k 2 _ _ (by omega) (by omega) hd rfl
    rw [Nat.add_zero] at a0 s0
    have hl : (enc r).length = 3 := by rw [e]; rfl
    rw [hl] at hX ⊢
    exact rf3_same s k w hs s0 (by omega) (by omega) s2 r h r rfl (by omega) hX
  · have e := enc_four (by omega) (by omega : r ≤ 1114111)
    rw [e] at hd
    obtain ⟨a0, s0⟩ := bt_enc s k 0 _ _ (by omega) (by omega) hd rfl
    obtain ⟨a1, s1⟩ := bt_enc s k 1 _ _ (by omega) (by omega) hd rfl
    obtain ⟨a2, s2⟩ := bt_enc s k 2 _ _ (by omega) (by omega) hd rfl
    obtain ⟨a3, s3⟩ := bt_enc s k 3 _ _ (by omega) (by omega) hd rfl
    rw [Nat.add_zero] at a0 s0
    have hl : (enc r).length = 4 := by rw [e]; rfl
    rw [hl] at hX ⊢
    exact rf4_same s k w hs s0 (by omega) s3 r h r rfl (by omega) hX

theorem not_extract {s : ByteArray} {k n : Nat} {R : Nat} (hR : scal R) (hst : stuckL (s.data.toList.drop k)) : ¬ ⟨(enc R).toArray⟩ = s.extract k (k + n) := by
  intro e
  have e1 := congrArg (fun x : ByteArray => x.data.toList) e
  simp only [extract_data, Nat.add_sub_cancel_left] at e1
  have e2 : s.data.toList.drop k = enc R ++ (s.data.toList.drop k).drop n := by
    conv => lhs; rw [← List.take_append_drop n (s.data.toList.drop k)]
    rw [← e1]
  exact not_stuck_enc hR _ (e2 ▸ hst)

theorem ref_first_bad (s : ByteArray) (k : Nat) (w : World) (hs : s.size ≤ 140737488351232) (hk : k < s.size) (hst : stuckL (s.data.toList.drop k)) :
    Calls Tryz.prog 108 #[.string s, .int .i64 k] w fun e w' => e = .returned (.tuple #[.int .i32 0, .int .i64 0]) ∧ Below w.heap.size w w' := by
  have q0 := bt_nonneg s k
  have q1 := bt_nonneg s (k + 1)
  have q2 := bt_nonneg s (k + 2)
  have q3 := bt_nonneg s (k + 3)
  have go : ∀ Z : Int, isScal Z → ∃ R : Nat, scal R ∧ Z = R := fun Z hz => ⟨Z.toNat, by unfold isScal at hz; unfold scal; omega, by unfold isScal at hz; omega⟩
  by_cases h1 : bt s k < 192
  · by_cases hZ : isScal (bt s k)
    · obtain ⟨R, hR, e⟩ := go _ hZ
      exact rf1_other s k w hs hk h1 hk R hR _ e rfl (not_extract hR hst)
    · exact rf1_non s k w hs hk h1 hk _ rfl hZ
  by_cases h2 : bt s k < 224
  · by_cases ho : s.size < k + 2
    · exact rf2_out s k w hs hk (by omega) h2 ho
    by_cases hZ : isScal ((bt s k - 192) * 64 + bt s (k + 1) % 64)
    · obtain ⟨R, hR, e⟩ := go _ hZ
      exact rf2_other s k w hs hk (by omega) h2 (by omega) R hR _ e rfl (not_extract hR hst)
    · exact rf2_non s k w hs hk (by omega) h2 (by omega) _ rfl hZ
  by_cases h3 : bt s k < 240
  · by_cases ho : s.size < k + 3
    · exact rf3_out s k w hs hk (by omega) h3 ho
    by_cases hZ : isScal (((bt s k - 224) * 64 + bt s (k + 1) % 64) * 64 + bt s (k + 2) % 64)
    · obtain ⟨R, hR, e⟩ := go _ hZ
      exact rf3_other s k w hs hk (by omega) h3 (by omega) R hR _ e rfl (not_extract hR hst)
    · exact rf3_non s k w hs hk (by omega) h3 (by omega) _ rfl hZ
  · by_cases ho : s.size < k + 4
    · exact rf4_out s k w hs hk (by omega) ho
    by_cases hZ : isScal ((((bt s k - 240) * 64 + bt s (k + 1) % 64) * 64 + bt s (k + 2) % 64) * 64 + bt s (k + 3) % 64)
    · obtain ⟨R, hR, e⟩ := go _ hZ
      exact rf4_other s k w hs hk (by omega) (by omega) R hR _ e rfl (not_extract hR hst)
    · exact rf4_non s k w hs hk (by omega) (by omega) _ rfl hZ
end Go.Proofs.YtfllomfjhkgaoaaGreatDoor

/- What the reference's decode, Breaks, List and Check answer. -/
namespace Go.Proofs.YtfllomfjhkgaoaaGreatDoor
open Go Go.RowKit Go.Lib
set_option linter.unusedVariables false

set_option maxHeartbeats 1000000 in
set_option maxRecDepth 100000 in
theorem ref_decode (s : ByteArray) (w : World) (hs : s.size ≤ 35184372087808) :
    Calls Tryz.prog 98 #[.string s] w fun e w' => ∃ v, e = .returned (.tuple #[v, .int .i64 (brk s.data.toList)]) ∧ Own32 w.heap.size w' v (ints (scs s.data.toList)) ∧ (∃ g cap, v = .slice (some ⟨g, 0, none⟩) (scs s.data.toList).length cap) ∧ Below w.heap.size w w' := by
  obtain ⟨t, h1, h2, h3⟩ := text_cases s.data.toList
  have hbk : brk s.data.toList = (encs (scs s.data.toList)).length := rfl
  obtain ⟨rs, hrs⟩ : ∃ rs, scs s.data.toList = rs := ⟨_, rfl⟩
  obtain ⟨B, hB⟩ : ∃ B, brk s.data.toList = B := ⟨_, rfl⟩
  rw [hB, hrs] at hbk
  rw [hrs] at h1 h3 ⊢
  rw [hB]
  obtain ⟨n, hn⟩ : ∃ n, rs.length = n := ⟨_, rfl⟩
  have hpn : pos rs n = B := by rw [← hn, pos_all, hbk]
  have hsz : B + t.length = s.size := by
    have := congrArg List.length h3
    rw [List.length_append, size_toList] at this
    omega
  have hnB : n ≤ B := by
    have : ∀ rs : List Nat, (∀ r ∈ rs, scal r) → rs.length ≤ (encs rs).length := fun rs => by
      induction rs with
      | nil => intro _; exact Nat.le_refl _
      | cons x rs ih =>
        intro hx
        have := enc_pos (hx x (by simp))
        have := ih fun r hr => hx r (by simp [hr])
        simp only [encs, List.length_append, List.length_cons]
        omega
    have := this rs h1
    omega
  have hdrop : ∀ i, s.data.toList.drop (pos rs i) = encs (rs.drop i) ++ t := fun i => by
    rw [h3, List.drop_append_of_le_length (pos_le rs i), drop_pos]
  obtain ⟨i0, z0, hi, hz, hz1, hz2, hz3⟩ := info32
  have hZ : Hid (i0.zero = some z0 ∧ i0.size = 1 ∧ i0.bytes = 4 ∧ z0.cells.size = 1) := ⟨hz, hz1, hz2, hz3⟩
  have HD : Hid (∀ i, s.data.toList.drop (pos rs i) = encs (rs.drop i) ++ t) := hdrop
  have HP : Hid (pos rs n = B) := hpn
  have HN : Hid (rs.length = n) := hn
  have HS : Hid (B + t.length = s.size) := hsz
  have hBs : B ≤ s.size := by omega
  clear hz hz1 hz2 hz3 hdrop hpn hn hsz h3 hrs hB hbk
  go_enter Tryz.func98, Tryz.ntmps98
  go_wp2
  have hst : (w.alloc (.cells #[] 21)).ownsRow w.heap.size 21 1 (.slice (some ⟨w.heap.size, 0, none⟩) 0 0) 0 [] := World.ownsRow_made w #[] 0 (Nat.le_refl _) (Nat.zero_le _) rfl
  have hbi : Below w.heap.size w (w.alloc (.cells #[] 21)) := (Below.refl _ _).alloc (Nat.le_refl _) _
  obtain ⟨v0, hv0⟩ : ∃ v0 : Value, v0 = Value.slice (some ⟨w.heap.size, 0, none⟩) 0 0 := ⟨_, rfl⟩
  have HV0 : Hid (∃ g cap, v0 = .slice (some ⟨g, 0, none⟩) 0 cap) := ⟨_, _, hv0⟩
  rw [← hv0] at hst ⊢
  obtain ⟨wi, hwi⟩ : ∃ wi, wi = w.alloc (.cells #[] 21) := ⟨_, rfl⟩
  rw [← hwi] at hst hbi ⊢
  clear hv0 hwi
  go_loopw [4, 5] (fun v p wr => ∃ i q : Nat, i ≤ n ∧ p = .int .i64 q ∧ q = pos rs i ∧ wr.ownsRow w.heap.size 21 1 v i (cells32 (ints (rs.take i))) ∧ (∃ g cap, v = .slice (some ⟨g, 0, none⟩) i cap) ∧ Below w.heap.size w wr) (fun _ p _ => s.size - (RowKit.intOf p).toNat)
  case atStart => exact ⟨0, 0, Nat.zero_le _, rfl, rfl, hst, HV0.out, hbi⟩
  case round =>
    clear hst hbi
    obtain ⟨i, q, hin, rfl, hq, hown, hform, hbw⟩ := hrel
    have HF : Hid (∃ g cap, u4 = .slice (some ⟨g, 0, none⟩) i cap) := hform
    clear hform
    by_cases hlt : i < n
    · have hr := h1 _ (List.getElem_mem (show i < rs.length by rw [HN.out]; exact hlt))
      have hps := pos_succ rs i (by rw [HN.out]; exact hlt)
      have hpl := enc_pos hr
      have hle : pos rs (i + 1) ≤ s.size := by
        have := congrArg List.length (HD.out (i + 1))
        have h4 := pos_le rs (i + 1)
        have h5 := HP.out
        rw [← HN.out, pos_all] at h5
        omega
      have hd : s.data.toList.drop q = enc (rs[i]'(by rw [HN.out]; exact hlt)) ++ (encs (rs.drop (i + 1)) ++ t) := by
        rw [hq, HD.out i, List.drop_eq_getElem_cons (by rw [HN.out]; exact hlt), encs, List.append_assoc]
      have HT : Hid (cells32 (ints (rs.take (i + 1))) = cells32 (ints (rs.take i)) ++ [.int .i32 ((rs[i]'(by rw [HN.out]; exact hlt) : Nat) : Int)]) := by
        show _ = _
        rw [List.take_succ_eq_append_getElem (by rw [HN.out]; exact hlt)]
        simp only [cells32, ints, List.map_append, List.map_cons, List.map_nil]
      have c := fun W => ref_first_ok s q W (by omega) _ hr _ hd
      obtain ⟨R, hR⟩ : ∃ R, rs[i]'(by rw [HN.out]; exact hlt) = R := ⟨_, rfl⟩
      rw [hR] at hps hpl HT c
      obtain ⟨L, hL⟩ : ∃ L, (enc R).length = L := ⟨_, rfl⟩
      rw [hL] at hps hpl c
      rw [hps, ← hq] at hle
      have HQ : Hid (pos rs (i + 1) = q + L) := by show _ = _; rw [hps, hq]
      clear hd hps hR hL h1 hq hr
      go_wp2_with (first
        | (go_at_call 108; refine (c _).mono ?_; rintro e w2 ⟨rfl, hb2⟩; have hbw2 := hbw.trans (hb2.mono hbw.size); have hown3 : (w2.alloc (.cells #[.int .i32 R] 21)).ownsRow w.heap.size 21 1 _ i _ := owns_below (owns_below hown hb2) ((Below.refl _ _).alloc (Nat.le_refl _) _))
        | (at_builtin; refine wpList_append_own _ rfl _ _ 161 rfl w.heap.size 21 i0 z0 1 4 Tryz.underlying161 hi hZ.out.1 hZ.out.2.1 hZ.out.2.2.1 hZ.out.2.2.2 (by decide) _ i _ rfl hown3 ⟨w2.heap.size, 0, none⟩ 1 1 [.int .i32 R] rfl rfl (by intro j u hj; cases j with | zero => (simp at hj; subst hj; simp [Addr.add]) | succ j => simp at hj) (fun u hu => by rw [List.mem_singleton.1 hu]; rfl) (by unfold maxLen; omega) (by omega) (by simp; have := hbw2.size; omega) ?_; intro v' w3 hown4 hgr4 _))
      have hb3 : Below w.heap.size w w3 := (hbw2.alloc hbw2.size _).grown hgr4 (by have := hbw2.size; simp; omega) (fun k hk => (owns_block hown3 k hk).1)
      go_roundw
      case rel => exact ⟨i + 1, q + L, by omega, by go_num, HQ.out.symm, by rw [HT.out]; exact hown4, own_val hown4 (by omega), hb3⟩
      case measure => simp [RowKit.intOf]; omega
    · obtain rfl : i = n := by omega
      have hqB : q = B := by rw [hq, HP.out]
      have hall : rs.take i = rs := List.take_of_length_le (by rw [HN.out]; exact Nat.le_refl _)
      have HO : Hid (wr.ownsRow w.heap.size 21 1 u4 (ints rs).length (cells32 (ints rs))) := by
        show wr.ownsRow _ _ _ _ _ _
        rw [ints_length, HN.out]
        rw [hall] at hown
        exact hown
      subst hqB
      by_cases hend : q < s.size
      · have hst : stuckL (s.data.toList.drop q) := by
          have e0 : rs.drop i = [] := List.drop_eq_nil_of_le (by rw [HN.out]; exact Nat.le_refl _)
          have := HD.out i
          rw [← hq, e0] at this
          simp only [encs, List.nil_append] at this
          rw [this]
          exact h2
        have c := ref_first_bad s q wr (by omega) hend hst
        have hendI : (q : Int) < s.size := by omega
        clear hown hall hq h1 hst
        go_wp2_with (go_at_call 108; refine c.mono ?_; rintro e w2 ⟨rfl, hb2⟩)
        go_ret2
        exact ⟨_, rfl, owns_below HO.out hb2, by rw [HN.out]; exact HF.out, hbw.trans (hb2.mono hbw.size)⟩
      · have hendI : ¬ (q : Int) < s.size := by omega
        clear hown hall hq h1
        go_wp2
        go_ret2
        exact ⟨_, rfl, HO.out, by rw [HN.out]; exact HF.out, hbw⟩

theorem ref_breaks (s : ByteArray) (w : World) (hs : s.size ≤ 35184372087808) :
    Calls Tryz.prog 89 #[.string s] w fun e w' => e = .returned (.int .i64 (brk s.data.toList)) ∧ Below w.heap.size w w' := by
  have c := ref_decode s w hs
  go_enter Tryz.func89, Tryz.ntmps89
  go_wp2_with (go_at_call 98; refine c.mono ?_; rintro e w2 ⟨v, rfl, _, _, hb2⟩)
  go_ret
  exact ⟨rfl, hb2⟩
end Go.Proofs.YtfllomfjhkgaoaaGreatDoor
