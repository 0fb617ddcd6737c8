/- What the values' methods answer: Kind, Plain; how values of the interface compare. -/
import Derived.Test.YtecmdlecfddeeaaDoorVs
import Derived.Test.YtecmdlecfddeeaaDoorVf
namespace Go.Proofs.YtecmdlecfddeeaaDoor
open Go Go.RowKit Go.Lib
set_option linter.unusedVariables false

theorem kind_n (w : World) : Calls Tryd.prog 115 #[.agg #[]] w fun e w' => e = .returned (.int .i64 0) ∧ Below w.heap.size w w' := by
  go_enter Tryd.func115, Tryd.ntmps115
  go_wp2
  go_ret
  exact ⟨rfl, (Below.refl _ _).alloc (Nat.le_refl _) _⟩
theorem kind_f (b : Bool) (w : World) : Calls Tryd.prog 109 #[.bool b] w fun e w' => e = .returned (.int .i64 1) ∧ Below w.heap.size w w' := by
  go_enter Tryd.func109, Tryd.ntmps109
  go_wp2
  go_ret
  exact ⟨rfl, Below.refl _ _⟩
theorem kind_d (n : Int) (w : World) : Calls Tryd.prog 111 #[.int .i64 n] w fun e w' => e = .returned (.int .i64 2) ∧ Below w.heap.size w w' := by
  go_enter Tryd.func111, Tryd.ntmps111
  go_wp2
  go_ret
  exact ⟨rfl, Below.refl _ _⟩
theorem kind_t (t : ByteArray) (w : World) : Calls Tryd.prog 113 #[.string t] w fun e w' => e = .returned (.int .i64 3) ∧ Below w.heap.size w w' := by
  go_enter Tryd.func113, Tryd.ntmps113
  go_wp2
  go_ret
  exact ⟨rfl, Below.refl _ _⟩
theorem plain_n (w : World) : Calls Tryd.prog 116 #[.agg #[]] w fun e w' => e = .returned (pl 0 0 ⟨#[]⟩) ∧ Below w.heap.size w w' := by
  go_enter Tryd.func116, Tryd.ntmps116
  go_wp2
  exact bodyPost_ret (v := pl 0 0 ⟨#[]⟩) (by simp [results, Tryd.results116, go_sem]) rfl ⟨rfl, by go_grown⟩
theorem plain_f (b : Bool) (w : World) : Calls Tryd.prog 110 #[.bool b] w fun e w' => e = .returned (pl 1 (if b then 1 else 0) ⟨#[]⟩) ∧ Below w.heap.size w w' := by
  cases b
  · go_enter Tryd.func110, Tryd.ntmps110
    go_wp2
    exact bodyPost_ret (v := pl 1 0 ⟨#[]⟩) (by simp [results, Tryd.results110, go_sem]) rfl ⟨rfl, by go_grown⟩
  · go_enter Tryd.func110, Tryd.ntmps110
    go_wp2
    exact bodyPost_ret (v := pl 1 1 ⟨#[]⟩) (by simp [results, Tryd.results110, go_sem]) rfl ⟨rfl, by go_grown⟩
theorem plain_d (n : Int) (w : World) : Calls Tryd.prog 112 #[.int .i64 n] w fun e w' => e = .returned (pl 2 n ⟨#[]⟩) ∧ Below w.heap.size w w' := by
  go_enter Tryd.func112, Tryd.ntmps112
  go_wp2
  exact bodyPost_ret (v := pl 2 n ⟨#[]⟩) (by simp [results, Tryd.results112, go_sem]) rfl ⟨rfl, by go_grown⟩
theorem plain_t (t : ByteArray) (w : World) : Calls Tryd.prog 114 #[.string t] w fun e w' => e = .returned (pl 3 0 t) ∧ Below w.heap.size w w' := by
  go_enter Tryd.func114, Tryd.ntmps114
  go_wp2
  exact bodyPost_ret (v := pl 3 0 t) (by simp [results, Tryd.results114, go_sem]) rfl ⟨rfl, by go_grown⟩

/-! '==' at api.Value. -/
theorem compNull : (Tryd.prog.info? 111).map (·.comparable) = some true := by kernel_rfl
theorem compFlag : (Tryd.prog.info? 107).map (·.comparable) = some true := by kernel_rfl
theorem compNum : (Tryd.prog.info? 108).map (·.comparable) = some true := by kernel_rfl
theorem compText : (Tryd.prog.info? 109).map (·.comparable) = some true := by kernel_rfl

theorem eql_same_type {tx : TypeId} {vx vy : Value} {b : Bool} (w : World) (hc : (Tryd.prog.info? tx).map (·.comparable) = some true)
    (h : ∀ d : Nat, (Op.equalIn (d + 1) tx vx vy).run Tryd.prog w = .ok b w) : (binOp .eql 70 (.iface tx vx) (.iface tx vy)).run Tryd.prog w = .ok (.bool b) w := by
  cases hi : Tryd.prog.info? tx with
  | none => simp [hi] at hc
  | some i =>
    have hcc : i.comparable = true := by simpa [hi] using hc
    have h2 : ∀ d : Nat, (Op.equalIn (d + 2) 70 (.iface tx vx) (.iface tx vy)).run Tryd.prog w = .ok b w := fun d => by
      rw [Op.equalIn]
      simp [run_underlying Tryd.underlying70, typeInfo, hi, hcc, h d]
    simp only [binOp]
    simp [Op.equal, Op.maxDepth, h2 9998]

theorem eql_null (w : World) : (binOp .eql 70 (.iface 111 (.agg #[])) (.iface 111 (.agg #[]))).run Tryd.prog w = .ok (.bool true) w :=
  eql_same_type w compNull fun d => by
    rw [run_equalIn_agg w d 111 _ _ (by kernel_rfl) (by kernel_rfl)]
    simp [Program.fieldsOf, Tryd.underlying111, Op.eqFields]
theorem eql_flag (a b : Bool) (w : World) : (binOp .eql 70 (.iface 107 (.bool a)) (.iface 107 (.bool b))).run Tryd.prog w = .ok (.bool (a == b)) w :=
  eql_same_type w compFlag fun d => run_equalIn_bool' w d _ a b Tryd.underlying107
theorem eql_num (a b : Int) (w : World) : (binOp .eql 70 (.iface 108 (.int .i64 a)) (.iface 108 (.int .i64 b))).run Tryd.prog w = .ok (.bool (a == b)) w :=
  eql_same_type w compNum fun d => run_equalIn_int w d _ .i64 .i64 a b Tryd.underlying108
theorem eql_text (a b : ByteArray) (w : World) : (binOp .eql 70 (.iface 109 (.string a)) (.iface 109 (.string b))).run Tryd.prog w = .ok (.bool (a.toList == b.toList)) w :=
  eql_same_type w compText fun d => run_equalIn_string w d _ a b Tryd.underlying109
theorem eql_types {tx ty : TypeId} (vx vy : Value) (h : tx ≠ ty) (w : World) : (binOp .eql 70 (.iface tx vx) (.iface ty vy)).run Tryd.prog w = .ok (.bool false) w :=
  run_eql_iface_types tx ty vx vy Tryd.underlying70 h w
end Go.Proofs.YtecmdlecfddeeaaDoor
