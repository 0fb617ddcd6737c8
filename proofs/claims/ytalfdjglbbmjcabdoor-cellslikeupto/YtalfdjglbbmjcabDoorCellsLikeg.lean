/- Of all arguments within the bound vellumlaw09.CellsLike answers true and leaves them as they are: its card. -/
import Derived.Test.YtalfdjglbbmjcabDoorSdKa
import Derived.Test.YtalfdjglbbmjcabDoorOpp
import Derived.Test.YtalfdjglbbmjcabDoorMgc
import Derived.Test.YtalfdjglbbmjcabDoorMgd
namespace Go.Proofs.YtalfdjglbbmjcabDoor
open Go Go.RowKit Go.Lib Go.ChangeShapes Go.WideShapes Go.ChangeAt
set_option linter.unusedVariables false

theorem ixLKa_in : ∀ i ∈ IxO, i ∈ ixLKa := by decide
theorem laidOutP : laidOutB Tryd.prog = true := by kernel_rfl
theorem cellsLike_core {a : Nat → Addr} (w : World) (hS : Std ixLKa a w) (e0 : C5) (s0 : Value) (r0 : RN w s0 e0.2.2.2) (f0 : FitC e0) (e1 : C5) (s1 : Value) (r1 : RN w s1 e1.2.2.2) (f1 : FitC e1) :
    Calls Tryd.prog 3 #[ceP e0 s0, ceP e1 s1] w fun e w' => e = .returned (.bool true) ∧ Below w.heap.size w w' :=
  cellsLike_any e0 s0 e1 s1 w ixLKa_in hS r0 r1 f0 f1

set_option maxRecDepth 100000 in
theorem cellsLike_contract (H : Type) (enc : TypeId × Value → H) (W : World) (base : Nat) (args : Array Value) (ds gs : List (DataW H)) (before : List MemPlace)
    (hval : ∀ (j : Nat) t v, Tryd.f3.params[j]? = some t → args[j]? = some v → Value.okWide Tryd.prog W .any base t v)
    (hW : DataW.Whole enc Tryd.prog Tryd.f3.params.toList Rows.cellsLikeSpec.vars false W args.toList ds gs before)
    (hcond : Rows.uptoSmall H (ds ++ gs) = true)
    (hsz : (DataW.weightsEach Tryd.prog (Tryd.f3.params.toList ++ Rows.cellsLikeSpec.plain.varTypes Tryd.prog) (ds ++ gs)).all (· ≤ reachBytes) = true) (hL : laidMetH Tryd.prog laidLKa W) :
    Calls Tryd.prog 3 args W fun e W' => ∃ v, e = .returned v ∧ Rows.cellsLikeSpec.post enc Tryd.prog Tryd.f3 false true false false W args v W' := by
  have hW' := hW
  obtain ⟨p, q, hA0, hV, rfl, _, _⟩ := hW
  have hA : DataW.TrodAll enc Tryd.prog W 0 (fun _ => true) true Tryd.f3.params.toList args.toList ds p := hA0
  rw [Tryd.params3] at hA hval hsz
  obtain ⟨v0, vs0, d0, ds0, p0, q0, hargs, rfl, rfl, h0, r0⟩ := trodAll_cons hA
  obtain ⟨v1, vs1, d1, ds1, p1, q1, rfl, rfl, rfl, h1, r1⟩ := trodAll_cons r0
  obtain ⟨rfl, rfl, rfl⟩ := trodAll_nil r1
  obtain rfl : args = #[v0, v1] := by cases args; simp_all
  obtain ⟨rfl, rfl⟩ := trodVars_none hV
  obtain ⟨e0, s0, rfl, hrow0, hlt0, hbs0⟩ := open_cell9 (hval 0 26 v0 rfl rfl) h0
  have hb0 := of_decide_eq_true hcond
  simp only [Rows.uptoBulkAll, List.append_nil] at hb0
  have hu0 : Rows.uptoBulk d0 ≤ 1048576 := by omega
  obtain ⟨e1, s1, rfl, hrow1, hlt1, hbs1⟩ := open_cell9 (hval 1 26 v1 rfl rfl) h1
  have hb1 := of_decide_eq_true hcond
  simp only [Rows.uptoBulkAll, List.append_nil] at hb1
  have hu1 : Rows.uptoBulk d1 ≤ 1048576 := by omega
  obtain ⟨ad, hS⟩ := std_of_laidKa hL
  refine (cellsLike_core W hS e0 s0 hrow0 (fitC_bulk hu0 hbs0) e1 s1 hrow1 (fitC_bulk hu1 hbs1)).mono fun e W' ⟨he, hb⟩ => ?_
  subst he
  exact ⟨_, rfl, _, _, _, _, _, _, hW', trodAll_mk1 (shut_bool Tryd.underlying4 _), (trodAll_cons_mk (hb.trod laidOutP (by kernel_rfl) (of_decide_eq_true (by kernel_rfl)) h0 hlt0) (trodAll_cons_mk (hb.trod laidOutP (by kernel_rfl) (of_decide_eq_true (by kernel_rfl)) h1 hlt1) trodAll_mk0)), rfl, hb.frame _, fun h => by cases h⟩

theorem cellsLike_reads (os : Os) {H : Type} (enc : TypeId × Value → H) : ∃ x, DataW.whole enc Tryd.prog ((World.laidAll Tryd.prog os laidLKa).forCall (fun _ _ => 0) ⟨#[], #[.agg #[.int .i32 0, .string ByteArray.empty, .int .i64 0, .int .i64 0, .string ByteArray.empty, .slice none 0 0], .agg #[.int .i32 0, .string ByteArray.empty, .int .i64 0, .int .i64 0, .string ByteArray.empty, .slice none 0 0]], []⟩).memory Tryd.f3.params.toList Rows.cellsLikeSpec.vars false #[(.agg #[.int .i32 0, .string ByteArray.empty, .int .i64 0, .int .i64 0, .string ByteArray.empty, .slice none 0 0] : Value), .agg #[.int .i32 0, .string ByteArray.empty, .int .i64 0, .int .i64 0, .string ByteArray.empty, .slice none 0 0]].toList 8 = some x ∧ x.1 = [.agg [.lit (.int .i32 0), .lit (.string []), .agg [.lit (.int .i64 0), .lit (.int .i64 0), .lit (.string [])], .nil], .agg [.lit (.int .i32 0), .lit (.string []), .agg [.lit (.int .i64 0), .lit (.int .i64 0), .lit (.string [])], .nil]] ∧ x.2.1 = [] :=
  ⟨([.agg [.lit (.int .i32 0), .lit (.string []), .agg [.lit (.int .i64 0), .lit (.int .i64 0), .lit (.string [])], .nil], .agg [.lit (.int .i32 0), .lit (.string []), .agg [.lit (.int .i64 0), .lit (.int .i64 0), .lit (.string [])], .nil]], [], []), by kernel_rfl, rfl, rfl⟩

set_option maxRecDepth 100000 in
theorem cellsLike_lifted (os : Os) (started : os.Started) (H : Type) (enc : TypeId × Value → H) (F : Stop.Interp) :
    ReturnsInHanded {} Tryd.checked os 3 .any ((Rows.OpenSpec.upto Rows.cellsLikeSpec).preRow enc Tryd.prog Tryd.f3 Rows.cellsLikeUptoRow.domain false laidLKa) (((Rows.OpenSpec.upto Rows.cellsLikeSpec).at F).post enc Tryd.prog Tryd.f3 false true false false) := by
  obtain ⟨⟨xd, xg, xp⟩, hx, e1, e2⟩ := cellsLike_reads os enc
  simp only at e1 e2
  subst e1; subst e2
  refine returnsInHanded_of_row (C := Tryd.checked) (s := (Rows.OpenSpec.upto Rows.cellsLikeSpec)) ownKa started (by kernel_rfl) Tryd.func3
    ⟨World.laidAll Tryd.prog os laidLKa, fun _ _ => 0, ⟨#[], #[.agg #[.int .i32 0, .string ByteArray.empty, .int .i64 0, .int .i64 0, .string ByteArray.empty, .slice none 0 0], .agg #[.int .i32 0, .string ByteArray.empty, .int .i64 0, .int .i64 0, .string ByteArray.empty, .slice none 0 0]], []⟩, World.laidAll_os _ _ _, World.shaped_of_ZipB (by kernel_rfl) (by kernel_rfl), rfl, (Input.okWide_of_okWideB (by kernel_rfl)).2,
      OpenSpec.preRow_of_cond 8 hx (by kernel_rfl) (fun k hk => by cases hk; kernel_rfl) (by kernel_rfl) (wit_metKa os _), by
        simp only [Assume.holds]
        exact ⟨by simp, by simp, fun _ => Modest.zero, by simp, by simp⟩⟩ ?_
  intro W base args ds gs before hval hW _ hcond hsz hL _ _
  exact cellsLike_contract H enc W base args ds gs before hval hW (hcond _ rfl) hsz hL

theorem cellsLike_said : Rows.CellsLikeUptoSaid :=
  OpenClaim.holds_of_cond 3 Tryd.f3 rfl rfl rfl rfl rfl rfl rfl ⟨rfl, rfl, rfl, rfl, rfl⟩ rfl rfl rfl rfl rfl (by kernel_rfl) Tryd.func3 (by kernel_rfl)
    (of_decide_eq_true (by kernel_rfl)) (by unfold Func.isWrapper; first | (rw [if_pos (by decide +kernel)]; kernel_rfl) | (rw [if_neg (by decide +kernel)]; exact ⟨rfl, rfl⟩))
    (fun os started H enc _ F => by rw [OpenClaim.pre_eq_preRow]; exact cellsLike_lifted os started H enc F)

theorem cellsLike_plain (f : FuncId) (fn : Func) (hf : Tryd.pinned.checked.prog.funcNamed Rows.cellsLikeUptoRow.func = some f) (hfn : Tryd.pinned.checked.prog.funcs[f]? = some fn) :
    true = Tryd.pinned.checked.prog.looks [] ∧ ∀ (j : Nat) t, fn.params[j]? = some t → Tryd.pinned.checked.prog.wantsStandIn t = false := by
  obtain rfl : f = 3 := Option.some.inj ((show Tryd.prog.funcNamed Rows.cellsLikeUptoRow.func = some 3 by kernel_rfl).symm.trans hf) |>.symm
  obtain rfl : fn = Tryd.f3 := (Option.some.inj (Tryd.func3.symm.trans hfn)).symm
  refine ⟨by kernel_rfl, fun j t ht => ?_⟩
  rw [Tryd.params3] at ht
  have hm : t ∈ ([26] : List Nat) := by have := Array.mem_of_getElem? ht; simp at this; simp; omega
  have hall : (([26] : List Nat).all fun u => !Tryd.prog.wantsStandIn u) = true := by kernel_rfl
  exact (show Tryd.prog.wantsStandIn t = false by simpa using List.all_eq_true.1 hall t hm)

theorem cellsLike_card : Rows.CellsLikeUptoCardSaid :=
  Claim7.holds_tied_plain_at .later [] _ _ _ _ cellsLike_said (fun _ h => by cases h) (by kernel_rfl) (fun _ h => by cases h) cellsLikeUpto_row_tie rfl ⟨rfl, rfl⟩ (by kernel_rfl) rfl cellsLike_plain (by kernel_rfl)
end Go.Proofs.YtalfdjglbbmjcabDoor
