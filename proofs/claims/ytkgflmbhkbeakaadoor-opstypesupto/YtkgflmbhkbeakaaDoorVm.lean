/- What the values' methods answer: Kind, Plain; how values of the interface compare. -/
import Derived.Test.YtkgflmbhkbeakaaDoorVs
import Derived.Test.YtkgflmbhkbeakaaDoorVf
namespace Go.Proofs.YtkgflmbhkbeakaaDoor
open Go Go.RowKit Go.Lib
set_option linter.unusedVariables false
theorem plain_n (w : World) : Calls Tryd.prog 162 #[.agg #[]] w fun e w' => e = .returned (pl 0 0 ⟨#[]⟩) ∧ Below w.heap.size w w' := by
  go_enter Tryd.func162, Tryd.ntmps162
  go_wp2
  exact bodyPost_ret (v := pl 0 0 ⟨#[]⟩) (by simp [results, Tryd.results162, go_sem]) rfl ⟨rfl, by go_grown⟩
theorem plain_f (b : Bool) (w : World) : Calls Tryd.prog 156 #[.bool b] w fun e w' => e = .returned (pl 1 (if b then 1 else 0) ⟨#[]⟩) ∧ Below w.heap.size w w' := by
  cases b
  · go_enter Tryd.func156, Tryd.ntmps156
    go_wp2
    exact bodyPost_ret (v := pl 1 0 ⟨#[]⟩) (by simp [results, Tryd.results156, go_sem]) rfl ⟨rfl, by go_grown⟩
  · go_enter Tryd.func156, Tryd.ntmps156
    go_wp2
    exact bodyPost_ret (v := pl 1 1 ⟨#[]⟩) (by simp [results, Tryd.results156, go_sem]) rfl ⟨rfl, by go_grown⟩
theorem plain_d (n : Int) (w : World) : Calls Tryd.prog 158 #[.int .i64 n] w fun e w' => e = .returned (pl 2 n ⟨#[]⟩) ∧ Below w.heap.size w w' := by
  go_enter Tryd.func158, Tryd.ntmps158
  go_wp2
  exact bodyPost_ret (v := pl 2 n ⟨#[]⟩) (by simp [results, Tryd.results158, go_sem]) rfl ⟨rfl, by go_grown⟩
theorem plain_t (t : ByteArray) (w : World) : Calls Tryd.prog 160 #[.string t] w fun e w' => e = .returned (pl 3 0 t) ∧ Below w.heap.size w w' := by
  go_enter Tryd.func160, Tryd.ntmps160
  go_wp2
  exact bodyPost_ret (v := pl 3 0 t) (by simp [results, Tryd.results160, go_sem]) rfl ⟨rfl, by go_grown⟩

/-! '==' at api.Value. -/
theorem compNull : (Tryd.prog.info? 119).map (·.comparable) = some true := by kernel_rfl
theorem compFlag : (Tryd.prog.info? 115).map (·.comparable) = some true := by kernel_rfl
theorem compNum : (Tryd.prog.info? 116).map (·.comparable) = some true := by kernel_rfl
theorem compText : (Tryd.prog.info? 117).map (·.comparable) = some true := by kernel_rfl

theorem eql_same_type {tx : TypeId} {vx vy : Value} {b : Bool} (w : World) (hc : (Tryd.prog.info? tx).map (·.comparable) = some true)
    (h : ∀ d : Nat, (Op.equalIn (d + 1) tx vx vy).run Tryd.prog w = .ok b w) : (binOp .eql 40 (.iface tx vx) (.iface tx vy)).run Tryd.prog w = .ok (.bool b) w := by
  cases hi : Tryd.prog.info? tx with
  | none => simp [hi] at hc
  | some i =>
    have hcc : i.comparable = true := by simpa [hi] using hc
    have h2 : ∀ d : Nat, (Op.equalIn (d + 2) 40 (.iface tx vx) (.iface tx vy)).run Tryd.prog w = .ok b w := fun d => by
      rw [Op.equalIn]
      simp [run_underlying Tryd.underlying40, typeInfo, hi, hcc, h d]
    simp only [binOp]
    simp [Op.equal, Op.maxDepth, h2 9998]

theorem eql_null (w : World) : (binOp .eql 40 (.iface 119 (.agg #[])) (.iface 119 (.agg #[]))).run Tryd.prog w = .ok (.bool true) w :=
  eql_same_type w compNull fun d => by
    rw [run_equalIn_agg w d 119 _ _ (by kernel_rfl) (by kernel_rfl)]
    simp [Program.fieldsOf, Tryd.underlying119, Op.eqFields]
theorem eql_flag (a b : Bool) (w : World) : (binOp .eql 40 (.iface 115 (.bool a)) (.iface 115 (.bool b))).run Tryd.prog w = .ok (.bool (a == b)) w :=
  eql_same_type w compFlag fun d => run_equalIn_bool' w d _ a b Tryd.underlying115
theorem eql_num (a b : Int) (w : World) : (binOp .eql 40 (.iface 116 (.int .i64 a)) (.iface 116 (.int .i64 b))).run Tryd.prog w = .ok (.bool (a == b)) w :=
  eql_same_type w compNum fun d => run_equalIn_int w d _ .i64 .i64 a b Tryd.underlying116
theorem eql_text (a b : ByteArray) (w : World) : (binOp .eql 40 (.iface 117 (.string a)) (.iface 117 (.string b))).run Tryd.prog w = .ok (.bool (a.toList == b.toList)) w :=
  eql_same_type w compText fun d => run_equalIn_string w d _ a b Tryd.underlying117
theorem eql_types {tx ty : TypeId} (vx vy : Value) (h : tx ≠ ty) (w : World) : (binOp .eql 40 (.iface tx vx) (.iface ty vy)).run Tryd.prog w = .ok (.bool false) w :=
  run_eql_iface_types tx ty vx vy Tryd.underlying40 h w
end Go.Proofs.YtkgflmbhkbeakaaDoor
