/- What values.written and values.Text answer. -/
import Derived.Test.YtlmibpfikafbdaaDoorVf
import Derived.Lib.AppendIntMem
import Derived.Lib.SmallJoins
namespace Go.Proofs.YtlmibpfikafbdaaDoor
open Go Go.RowKit Go.Lib
set_option linter.unusedVariables false

/-- What strconv reads: the table of powers of ten, and some error in ErrRange. -/
structure Strc (w : World) : Prop where
  pow : TabIs Tryd.prog w "internal/strconv.uint64pow10" .u64 pow10Tab
  rng : ∃ t p, w.cell? ⟨24, 0, none⟩ = some (.iface t p)
theorem Strc.below {w w' : World} (h : Strc w) (hb : Below w.heap.size w w') : Strc w' :=
  ⟨Go.Joins.var_stays (g := 22) (by kernel_rfl) h.pow hb (Nat.le_refl _),
   by obtain ⟨t, p, hc⟩ := h.rng
      exact ⟨t, p, by rw [hb.cell (lt_of_cell hc)]; exact hc⟩⟩

def sNull : ByteArray := ⟨#[110, 117, 108, 108]⟩
def sTrue : ByteArray := ⟨#[116, 114, 117, 101]⟩
def sFalse : ByteArray := ⟨#[102, 97, 108, 115, 101]⟩
def sQuote : ByteArray := ⟨#[39]⟩
def txtOf (k n : Int) (t : ByteArray) : ByteArray :=
  if k = 1 then (if n = 1 then sTrue else sFalse) else if k = 2 then ⟨(itoa n).toArray⟩ else if k = 3 then sQuote ++ t else sNull

theorem as_n_f (W : World) : (Instr.typeAssert (.iface 52 (.agg #[])) 27 54 true).run Tryd.prog W = .ok (.tuple #[.bool false, .bool false]) W := by kernel_rfl
theorem as_n_n (W : World) : (Instr.typeAssert (.iface 52 (.agg #[])) 27 50 true).run Tryd.prog W = .ok (.tuple #[.int .i64 0, .bool false]) W := by kernel_rfl
theorem as_n_t (W : World) : (Instr.typeAssert (.iface 52 (.agg #[])) 27 55 true).run Tryd.prog W = .ok (.tuple #[.string ⟨#[]⟩, .bool false]) W := by kernel_rfl
theorem as_f_f (b : Bool) (W : World) : (Instr.typeAssert (.iface 54 (.bool b)) 27 54 true).run Tryd.prog W = .ok (.tuple #[.bool b, .bool true]) W := by kernel_rfl
theorem as_d_f (n : Int) (W : World) : (Instr.typeAssert (.iface 50 (.int .i64 n)) 27 54 true).run Tryd.prog W = .ok (.tuple #[.bool false, .bool false]) W := by kernel_rfl
theorem as_d_d (n : Int) (W : World) : (Instr.typeAssert (.iface 50 (.int .i64 n)) 27 50 true).run Tryd.prog W = .ok (.tuple #[.int .i64 n, .bool true]) W := by kernel_rfl
theorem as_t_f (t : ByteArray) (W : World) : (Instr.typeAssert (.iface 55 (.string t)) 27 54 true).run Tryd.prog W = .ok (.tuple #[.bool false, .bool false]) W := by kernel_rfl
theorem as_t_d (t : ByteArray) (W : World) : (Instr.typeAssert (.iface 55 (.string t)) 27 50 true).run Tryd.prog W = .ok (.tuple #[.int .i64 0, .bool false]) W := by kernel_rfl
theorem as_t_t (t : ByteArray) (W : World) : (Instr.typeAssert (.iface 55 (.string t)) 27 55 true).run Tryd.prog W = .ok (.tuple #[.string t, .bool true]) W := by kernel_rfl

theorem written_null (w : World) : Calls Tryd.prog 28 #[.iface 52 (.agg #[])] w fun e w' => e = .returned (.string sNull) ∧ w' = w := by
  have h1 := as_n_f
  have h2 := as_n_n
  have h3 := as_n_t
  go_enter Tryd.func28, Tryd.ntmps28
  go_wp2
  go_ret
  exact ⟨rfl, rfl⟩
theorem written_flag (b : Bool) (w : World) : Calls Tryd.prog 28 #[.iface 54 (.bool b)] w fun e w' => e = .returned (.string (if b then sTrue else sFalse)) ∧ w' = w := by
  have h1 := as_f_f b
  have c := fun W => Tryd.strconv_FormatBool b W
  obtain ⟨S, hS⟩ : ∃ S : ByteArray, ⟨(formatBool b).toArray⟩ = S := ⟨_, rfl⟩
  rw [hS] at c
  rw [show (if b then sTrue else sFalse) = S by rw [← hS]; cases b <;> rfl]
  clear hS
  go_enter Tryd.func28, Tryd.ntmps28
  go_wp2_with (go_at_call 41; refine (c _).mono ?_; rintro e w' ⟨rfl, rfl⟩)
  go_ret
  exact ⟨rfl, rfl⟩
theorem written_num (n : Int) (w : World) (h0 : -9223372036854775808 ≤ n) (h1 : n ≤ 9223372036854775807) (hT : Strc w) :
    Calls Tryd.prog 28 #[.iface 50 (.int .i64 n)] w fun e w' => e = .returned (.string ⟨(itoa n).toArray⟩) ∧ Below w.heap.size w w' := by
  have g1 := as_d_f n
  have g2 := as_d_d n
  have c := Tryd.strconv_FormatInt_10 n h0 h1 w hT.pow
  obtain ⟨S, hS⟩ : ∃ S : ByteArray, ⟨(itoa n).toArray⟩ = S := ⟨_, rfl⟩
  rw [hS] at c ⊢
  clear hS hT h0 h1
  go_enter Tryd.func28, Tryd.ntmps28
  go_wp2_with (go_at_call 42; refine c.mono ?_; rintro e w' ⟨rfl, k, os, hw⟩; have hb : Below w.heap.size w w' := (by rw [hw]; exact below_grow _ _ (Nat.le_refl _) _ _); clear hw)
  go_ret
  exact ⟨rfl, hb⟩
theorem written_text (t : ByteArray) (w : World) (hs : t.size ≤ 281474976710656) : Calls Tryd.prog 28 #[.iface 55 (.string t)] w fun e w' => e = .returned (.string (sQuote ++ t)) ∧ w' = w := by
  have g1 := as_t_f t
  have g2 := as_t_d t
  have g3 := as_t_t t
  go_enter Tryd.func28, Tryd.ntmps28
  go_wp2
  go_ret
  exact ⟨rfl, rfl⟩

/-- values.Text. -/
theorem text_no {I : List Nat} {a : Nat → Addr} (k n : Int) (t : ByteArray) (w : World) (hI : ∀ i ∈ [0, 4, 9], i ∈ I) (hS : Std I a w) (hs : t.size ≤ 281474976710656) (e : Nat) (he : chk k n t = e + 1) :
    Calls Tryd.prog 15 #[pl k n t] w fun r w' => r = .returned (.tuple #[.string ⟨#[]⟩, errV a e]) ∧ Below w.heap.size w w' := by
  have b0 := (Below.refl w.heap.size w).alloc (Nat.le_refl _) (.cells #[.int .i64 k, .int .i64 n, .string t] 23)
  have c := from_below b0 (of_no k n t _ hI (hS.below b0) hs e he)
  clear hS hI he
  go_enter Tryd.func15, Tryd.ntmps15
  go_wp2_with (go_at_call 11; refine c.mono ?_; rintro e w1 ⟨rfl, b1⟩)
  go_ret2
  exact ⟨rfl, b1⟩

set_option maxHeartbeats 400000 in
theorem text_ok {I : List Nat} {a : Nat → Addr} (k n : Int) (t : ByteArray) (w : World) (hI : ∀ i ∈ [0, 4, 9], i ∈ I) (hS : Std I a w) (hT : Strc w) (hs : t.size ≤ 281474976710656) (h0 : -9223372036854775808 ≤ n) (h1 : n ≤ 9223372036854775807) (he : chk k n t = 0) :
    Calls Tryd.prog 15 #[pl k n t] w fun r w' => r = .returned (.tuple #[.string (txtOf k n t), .nilIface]) ∧ Below w.heap.size w w' := by
  have b0 := (Below.refl w.heap.size w).alloc (Nat.le_refl _) (.cells #[.int .i64 k, .int .i64 n, .string t] 23)
  have c := from_below b0 (of_ok k n t _ hI (hS.below b0) hs he)
  have d : ∃ V, valOf k n t = V ∧ ∀ W, Below w.heap.size w W → Calls Tryd.prog 28 #[V] W fun r w' => r = .returned (.string (txtOf k n t)) ∧ Below w.heap.size w w' := by
    refine ⟨_, rfl, fun W hW => ?_⟩
    rcases good_cases he with ⟨rfl, rfl, rfl⟩ | ⟨rfl, rfl, rfl⟩ | ⟨rfl, rfl, rfl⟩ | ⟨rfl, rfl⟩ | ⟨rfl, rfl, _⟩
    · exact (written_null W).mono fun r w' ⟨h1, h2⟩ => ⟨by rw [h1]; rfl, by rw [h2]; exact hW⟩
    · exact (written_flag false W).mono fun r w' ⟨h1, h2⟩ => ⟨by rw [h1]; rfl, by rw [h2]; exact hW⟩
    · exact (written_flag true W).mono fun r w' ⟨h1, h2⟩ => ⟨by rw [h1]; rfl, by rw [h2]; exact hW⟩
    · exact (written_num n W h0 h1 (hT.below hW)).mono fun r w' ⟨h1, h2⟩ => ⟨by rw [h1]; rfl, hW.trans (h2.mono hW.size)⟩
    · exact (written_text t W hs).mono fun r w' ⟨h1, h2⟩ => ⟨by rw [h1]; rfl, by rw [h2]; exact hW⟩
  obtain ⟨V, hV, d⟩ := d
  rw [hV] at c
  obtain ⟨S, hS'⟩ : ∃ S, txtOf k n t = S := ⟨_, rfl⟩
  rw [hS'] at d ⊢
  clear hV hS' hS hT hI he h0 h1
  go_enter Tryd.func15, Tryd.ntmps15
  go_wp2_with (first
    | (go_at_call 11; refine c.mono ?_; rintro e w1 ⟨rfl, b1⟩)
    | (go_at_call 28; refine (d _ b1).mono ?_; rintro e w2 ⟨rfl, b2⟩))
  go_ret2
  exact ⟨rfl, b2⟩
end Go.Proofs.YtlmibpfikafbdaaDoor
