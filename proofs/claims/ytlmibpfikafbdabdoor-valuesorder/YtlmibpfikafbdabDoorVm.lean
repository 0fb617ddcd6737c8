/- What the values' methods answer: Kind, Plain; how values of the interface compare. -/
import Derived.Test.YtlmibpfikafbdabDoorVs
import Derived.Test.YtlmibpfikafbdabDoorVq
namespace Go.Proofs.YtlmibpfikafbdabDoor
open Go Go.RowKit Go.Lib
set_option linter.unusedVariables false

theorem kind_n (w : World) : Calls Tryd.prog 83 #[.agg #[]] w fun e w' => e = .returned (.int .i64 0) ∧ Below w.heap.size w w' := by
  go_enter Tryd.func83, Tryd.ntmps83
  go_wp2
  go_ret
  exact ⟨rfl, (Below.refl _ _).alloc (Nat.le_refl _) _⟩
theorem kind_f (b : Bool) (w : World) : Calls Tryd.prog 77 #[.bool b] w fun e w' => e = .returned (.int .i64 1) ∧ Below w.heap.size w w' := by
  go_enter Tryd.func77, Tryd.ntmps77
  go_wp2
  go_ret
  exact ⟨rfl, Below.refl _ _⟩
theorem kind_d (n : Int) (w : World) : Calls Tryd.prog 79 #[.int .i64 n] w fun e w' => e = .returned (.int .i64 2) ∧ Below w.heap.size w w' := by
  go_enter Tryd.func79, Tryd.ntmps79
  go_wp2
  go_ret
  exact ⟨rfl, Below.refl _ _⟩
theorem kind_t (t : ByteArray) (w : World) : Calls Tryd.prog 81 #[.string t] w fun e w' => e = .returned (.int .i64 3) ∧ Below w.heap.size w w' := by
  go_enter Tryd.func81, Tryd.ntmps81
  go_wp2
  go_ret
  exact ⟨rfl, Below.refl _ _⟩
theorem plain_n (w : World) : Calls Tryd.prog 84 #[.agg #[]] w fun e w' => e = .returned (pl 0 0 ⟨#[]⟩) ∧ Below w.heap.size w w' := by
  go_enter Tryd.func84, Tryd.ntmps84
  go_wp2
  exact bodyPost_ret (v := pl 0 0 ⟨#[]⟩) (by simp [results, Tryd.results84, go_sem]) rfl ⟨rfl, by go_grown⟩
theorem plain_f (b : Bool) (w : World) : Calls Tryd.prog 78 #[.bool b] w fun e w' => e = .returned (pl 1 (if b then 1 else 0) ⟨#[]⟩) ∧ Below w.heap.size w w' := by
  cases b
  · go_enter Tryd.func78, Tryd.ntmps78
    go_wp2
    exact bodyPost_ret (v := pl 1 0 ⟨#[]⟩) (by simp [results, Tryd.results78, go_sem]) rfl ⟨rfl, by go_grown⟩
  · go_enter Tryd.func78, Tryd.ntmps78
    go_wp2
    exact bodyPost_ret (v := pl 1 1 ⟨#[]⟩) (by simp [results, Tryd.results78, go_sem]) rfl ⟨rfl, by go_grown⟩
theorem plain_d (n : Int) (w : World) : Calls Tryd.prog 80 #[.int .i64 n] w fun e w' => e = .returned (pl 2 n ⟨#[]⟩) ∧ Below w.heap.size w w' := by
  go_enter Tryd.func80, Tryd.ntmps80
  go_wp2
  exact bodyPost_ret (v := pl 2 n ⟨#[]⟩) (by simp [results, Tryd.results80, go_sem]) rfl ⟨rfl, by go_grown⟩
theorem plain_t (t : ByteArray) (w : World) : Calls Tryd.prog 82 #[.string t] w fun e w' => e = .returned (pl 3 0 t) ∧ Below w.heap.size w w' := by
  go_enter Tryd.func82, Tryd.ntmps82
  go_wp2
  exact bodyPost_ret (v := pl 3 0 t) (by simp [results, Tryd.results82, go_sem]) rfl ⟨rfl, by go_grown⟩

/-! '==' at api.Value. -/
theorem compNull : (Tryd.prog.info? 51).map (·.comparable) = some true := by kernel_rfl
theorem compFlag : (Tryd.prog.info? 46).map (·.comparable) = some true := by kernel_rfl
theorem compNum : (Tryd.prog.info? 47).map (·.comparable) = some true := by kernel_rfl
theorem compText : (Tryd.prog.info? 48).map (·.comparable) = some true := by kernel_rfl

theorem eql_same_type {tx : TypeId} {vx vy : Value} {b : Bool} (w : World) (hc : (Tryd.prog.info? tx).map (·.comparable) = some true)
    (h : ∀ d : Nat, (Op.equalIn (d + 1) tx vx vy).run Tryd.prog w = .ok b w) : (binOp .eql 31 (.iface tx vx) (.iface tx vy)).run Tryd.prog w = .ok (.bool b) w := by
  cases hi : Tryd.prog.info? tx with
  | none => simp [hi] at hc
  | some i =>
    have hcc : i.comparable = true := by simpa [hi] using hc
    have h2 : ∀ d : Nat, (Op.equalIn (d + 2) 31 (.iface tx vx) (.iface tx vy)).run Tryd.prog w = .ok b w := fun d => by
      rw [Op.equalIn]
      simp [run_underlying Tryd.underlying31, typeInfo, hi, hcc, h d]
    simp only [binOp]
    simp [Op.equal, Op.maxDepth, h2 9998]

theorem eql_null (w : World) : (binOp .eql 31 (.iface 51 (.agg #[])) (.iface 51 (.agg #[]))).run Tryd.prog w = .ok (.bool true) w :=
  eql_same_type w compNull fun d => by
    rw [run_equalIn_agg w d 51 _ _ (by kernel_rfl) (by kernel_rfl)]
    simp [Program.fieldsOf, Tryd.underlying51, Op.eqFields]
theorem eql_flag (a b : Bool) (w : World) : (binOp .eql 31 (.iface 46 (.bool a)) (.iface 46 (.bool b))).run Tryd.prog w = .ok (.bool (a == b)) w :=
  eql_same_type w compFlag fun d => run_equalIn_bool' w d _ a b Tryd.underlying46
theorem eql_num (a b : Int) (w : World) : (binOp .eql 31 (.iface 47 (.int .i64 a)) (.iface 47 (.int .i64 b))).run Tryd.prog w = .ok (.bool (a == b)) w :=
  eql_same_type w compNum fun d => run_equalIn_int w d _ .i64 .i64 a b Tryd.underlying47
theorem eql_text (a b : ByteArray) (w : World) : (binOp .eql 31 (.iface 48 (.string a)) (.iface 48 (.string b))).run Tryd.prog w = .ok (.bool (a.toList == b.toList)) w :=
  eql_same_type w compText fun d => run_equalIn_string w d _ a b Tryd.underlying48
theorem eql_types {tx ty : TypeId} (vx vy : Value) (h : tx ≠ ty) (w : World) : (binOp .eql 31 (.iface tx vx) (.iface ty vy)).run Tryd.prog w = .ok (.bool false) w :=
  run_eql_iface_types tx ty vx vy Tryd.underlying31 h w
end Go.Proofs.YtlmibpfikafbdabDoor
