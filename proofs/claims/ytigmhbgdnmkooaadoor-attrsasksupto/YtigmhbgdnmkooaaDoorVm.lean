/- What the values' methods answer: Kind, Plain; how values of the interface compare. -/
import Derived.Test.YtigmhbgdnmkooaaDoorVs
import Derived.Test.YtigmhbgdnmkooaaDoorVf
namespace Go.Proofs.YtigmhbgdnmkooaaDoor
open Go Go.RowKit Go.Lib
set_option linter.unusedVariables false
theorem compNull : (Tryd.prog.info? 79).map (·.comparable) = some true := by kernel_rfl
theorem compFlag : (Tryd.prog.info? 75).map (·.comparable) = some true := by kernel_rfl
theorem compNum : (Tryd.prog.info? 76).map (·.comparable) = some true := by kernel_rfl
theorem compText : (Tryd.prog.info? 77).map (·.comparable) = some true := by kernel_rfl

theorem eql_same_type {tx : TypeId} {vx vy : Value} {b : Bool} (w : World) (hc : (Tryd.prog.info? tx).map (·.comparable) = some true)
    (h : ∀ d : Nat, (Op.equalIn (d + 1) tx vx vy).run Tryd.prog w = .ok b w) : (binOp .eql 40 (.iface tx vx) (.iface tx vy)).run Tryd.prog w = .ok (.bool b) w := by
  cases hi : Tryd.prog.info? tx with
  | none => simp [hi] at hc
  | some i =>
    have hcc : i.comparable = true := by simpa [hi] using hc
    have h2 : ∀ d : Nat, (Op.equalIn (d + 2) 40 (.iface tx vx) (.iface tx vy)).run Tryd.prog w = .ok b w := fun d => by
      rw [Op.equalIn]
      simp [run_underlying Tryd.underlying40, typeInfo, hi, hcc, h d]
    simp only [binOp]
    simp [Op.equal, Op.maxDepth, h2 9998]

theorem eql_null (w : World) : (binOp .eql 40 (.iface 79 (.agg #[])) (.iface 79 (.agg #[]))).run Tryd.prog w = .ok (.bool true) w :=
  eql_same_type w compNull fun d => by
    rw [run_equalIn_agg w d 79 _ _ (by kernel_rfl) (by kernel_rfl)]
    simp [Program.fieldsOf, Tryd.underlying79, Op.eqFields]
theorem eql_flag (a b : Bool) (w : World) : (binOp .eql 40 (.iface 75 (.bool a)) (.iface 75 (.bool b))).run Tryd.prog w = .ok (.bool (a == b)) w :=
  eql_same_type w compFlag fun d => run_equalIn_bool' w d _ a b Tryd.underlying75
theorem eql_num (a b : Int) (w : World) : (binOp .eql 40 (.iface 76 (.int .i64 a)) (.iface 76 (.int .i64 b))).run Tryd.prog w = .ok (.bool (a == b)) w :=
  eql_same_type w compNum fun d => run_equalIn_int w d _ .i64 .i64 a b Tryd.underlying76
theorem eql_text (a b : ByteArray) (w : World) : (binOp .eql 40 (.iface 77 (.string a)) (.iface 77 (.string b))).run Tryd.prog w = .ok (.bool (a.toList == b.toList)) w :=
  eql_same_type w compText fun d => run_equalIn_string w d _ a b Tryd.underlying77
theorem eql_types {tx ty : TypeId} (vx vy : Value) (h : tx ≠ ty) (w : World) : (binOp .eql 40 (.iface tx vx) (.iface ty vy)).run Tryd.prog w = .ok (.bool false) w :=
  run_eql_iface_types tx ty vx vy Tryd.underlying40 h w
end Go.Proofs.YtigmhbgdnmkooaaDoor
