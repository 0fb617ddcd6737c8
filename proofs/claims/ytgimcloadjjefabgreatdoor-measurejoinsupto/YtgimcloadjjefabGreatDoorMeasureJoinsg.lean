/- Of all arguments within the bound vellumlaw08.MeasureJoins answers true and leaves them as they are: its card. -/
import Derived.Test.YtgimcloadjjefabGreatDoorSdQ
import Derived.Test.YtgimcloadjjefabGreatDoorOpp
import Derived.Test.YtgimcloadjjefabGreatDoorMgb
import Derived.Test.YtgimcloadjjefabGreatDoorMgg
namespace Go.Proofs.YtgimcloadjjefabGreatDoor
open Go Go.RowKit Go.Lib Go.ChangeShapes Go.WideShapes Go.ChangeAt
set_option linter.unusedVariables false

theorem ixLQ_in : ∀ i ∈ IR8, i ∈ ixLQ := by decide
theorem sent_Q {a : Nat → Addr} {w : World} (hS : Std ixLQ a w) : Sent a w := by
  have e : all19 = ixLQ := by decide
  unfold Sent
  rw [e]
  exact hS.er
theorem laidOutP : laidOutB Tryz.prog = true := by kernel_rfl
theorem measureJoins_core {a : Nat → Addr} (w : World) (hS : Std ixLQ a w) (v0 : Value) (A0 : List Op5) (r0 : ReO w v0 A0) (f0 : FitL A0) (l0 : A0.length * 6 + 1 ≤ 1048576) (t0 : txtS A0 ≤ 1048576) (v1 : Value) (A1 : List Op5) (r1 : ReO w v1 A1) (f1 : FitL A1) (l1 : A1.length * 6 + 1 ≤ 1048576) (t1 : txtS A1 ≤ 1048576) (v2 : Value) (A2 : List Op5) (r2 : ReO w v2 A2) (f2 : FitL A2) (l2 : A2.length * 6 + 1 ≤ 1048576) (t2 : txtS A2 ≤ 1048576) (hsum : A0.length + A1.length + A2.length + 1 ≤ 1048576) (htsum : txtS A0 + txtS A1 + txtS A2 ≤ 1048576) :
    Calls Tryz.prog 5 #[v0, v1, v2] w fun e w' => e = .returned (.bool true) ∧ Below w.heap.size w w' :=
  measureJoins_any v0 v1 v2 A0 A1 A2 w ixLQ_in hS (sent_Q hS) r0 r1 r2 f0 f1 f2 (by omega) t0 (by omega) t1 (by omega) t2 hsum htsum

set_option maxRecDepth 100000 in
theorem measureJoins_contract (H : Type) (enc : TypeId × Value → H) (W : World) (base : Nat) (args : Array Value) (ds gs : List (DataW H)) (before : List MemPlace)
    (hval : ∀ (j : Nat) t v, Tryz.f5.params[j]? = some t → args[j]? = some v → Value.okWide Tryz.prog W .any base t v)
    (hW : DataW.Whole enc Tryz.prog Tryz.f5.params.toList Rows.measureJoinsSpec.vars false W args.toList ds gs before)
    (hcond : Rows.uptoSmall H (ds ++ gs) = true)
    (hsz : (DataW.weightsEach Tryz.prog (Tryz.f5.params.toList ++ Rows.measureJoinsSpec.plain.varTypes Tryz.prog) (ds ++ gs)).all (· ≤ reachBytes) = true) (hL : laidMetH Tryz.prog laidLQ W) :
    Calls Tryz.prog 5 args W fun e W' => ∃ v, e = .returned v ∧ Rows.measureJoinsSpec.post enc Tryz.prog Tryz.f5 false true false false W args v W' := by
  have hW' := hW
  obtain ⟨p, q, hA0, hV, rfl, _, _⟩ := hW
  have hA : DataW.TrodAll enc Tryz.prog W 0 (fun _ => true) true Tryz.f5.params.toList args.toList ds p := hA0
  rw [Tryz.params5] at hA hval hsz
  obtain ⟨v0, vs0, d0, ds0, p0, q0, hargs, rfl, rfl, h0, r0⟩ := trodAll_cons hA
  obtain ⟨v1, vs1, d1, ds1, p1, q1, rfl, rfl, rfl, h1, r1⟩ := trodAll_cons r0
  obtain ⟨v2, vs2, d2, ds2, p2, q2, rfl, rfl, rfl, h2, r2⟩ := trodAll_cons r1
  obtain ⟨rfl, rfl, rfl⟩ := trodAll_nil r2
  obtain rfl : args = #[v0, v1, v2] := by cases args; simp_all
  obtain ⟨rfl, rfl⟩ := trodVars_none hV
  obtain ⟨z0, hrow0, hlt0, hbl0, hbt0, hbs0⟩ := open_ops8 (hval 0 22 v0 rfl rfl) h0
  have hb0 := of_decide_eq_true hcond
  simp only [Rows.uptoBulkAll, List.append_nil] at hb0
  have hu0 : Rows.uptoBulk d0 ≤ 1048576 := by omega
  obtain ⟨z1, hrow1, hlt1, hbl1, hbt1, hbs1⟩ := open_ops8 (hval 1 22 v1 rfl rfl) h1
  have hb1 := of_decide_eq_true hcond
  simp only [Rows.uptoBulkAll, List.append_nil] at hb1
  have hu1 : Rows.uptoBulk d1 ≤ 1048576 := by omega
  obtain ⟨z2, hrow2, hlt2, hbl2, hbt2, hbs2⟩ := open_ops8 (hval 2 22 v2 rfl rfl) h2
  have hb2 := of_decide_eq_true hcond
  simp only [Rows.uptoBulkAll, List.append_nil] at hb2
  have hu2 : Rows.uptoBulk d2 ≤ 1048576 := by omega
  obtain ⟨ad, hS⟩ := std_of_laidQ hL
  refine (measureJoins_core W hS v0 z0 hrow0 (fitL_bulk hu0 hbs0) (Nat.le_trans hbl0 hu0) (Nat.le_trans hbt0 hu0) v1 z1 hrow1 (fitL_bulk hu1 hbs1) (Nat.le_trans hbl1 hu1) (Nat.le_trans hbt1 hu1) v2 z2 hrow2 (fitL_bulk hu2 hbs2) (Nat.le_trans hbl2 hu2) (Nat.le_trans hbt2 hu2) (by omega) (by omega)).mono fun e W' ⟨he, hb⟩ => ?_
  subst he
  exact ⟨_, rfl, _, _, _, _, _, _, hW', trodAll_mk1 (shut_bool Tryz.underlying4 _), (trodAll_cons_mk (hb.trod laidOutP (by kernel_rfl) (of_decide_eq_true (by kernel_rfl)) h0 hlt0) (trodAll_cons_mk (hb.trod laidOutP (by kernel_rfl) (of_decide_eq_true (by kernel_rfl)) h1 hlt1) (trodAll_cons_mk (hb.trod laidOutP (by kernel_rfl) (of_decide_eq_true (by kernel_rfl)) h2 hlt2) trodAll_mk0))), rfl, hb.frame _, fun h => by cases h⟩

theorem measureJoins_reads (os : Os) {H : Type} (enc : TypeId × Value → H) : ∃ x, DataW.whole enc Tryz.prog ((World.laidAll Tryz.prog os laidLQ).forCall (fun _ _ => 0) ⟨#[], #[.slice none 0 0, .slice none 0 0, .slice none 0 0], []⟩).memory Tryz.f5.params.toList Rows.measureJoinsSpec.vars false #[(.slice none 0 0 : Value), .slice none 0 0, .slice none 0 0].toList 8 = some x ∧ x.1 = [.nil, .nil, .nil] ∧ x.2.1 = [] :=
  ⟨([.nil, .nil, .nil], [], []), by kernel_rfl, rfl, rfl⟩

set_option maxRecDepth 100000 in
theorem measureJoins_lifted (os : Os) (started : os.Started) (H : Type) (enc : TypeId × Value → H) (F : Stop.Interp) :
    ReturnsInHanded {} Tryz.checked os 5 .any ((Rows.OpenSpec.upto Rows.measureJoinsSpec).preRow enc Tryz.prog Tryz.f5 Rows.measureJoinsUptoRow.domain false laidLQ) (((Rows.OpenSpec.upto Rows.measureJoinsSpec).at F).post enc Tryz.prog Tryz.f5 false true false false) := by
  obtain ⟨⟨xd, xg, xp⟩, hx, e1, e2⟩ := measureJoins_reads os enc
  simp only at e1 e2
  subst e1; subst e2
  refine returnsInHanded_of_row (C := Tryz.checked) (s := (Rows.OpenSpec.upto Rows.measureJoinsSpec)) ownQ started (by kernel_rfl) Tryz.func5
    ⟨World.laidAll Tryz.prog os laidLQ, fun _ _ => 0, ⟨#[], #[.slice none 0 0, .slice none 0 0, .slice none 0 0], []⟩, World.laidAll_os _ _ _, World.shaped_of_ZipB (by kernel_rfl) (by kernel_rfl), rfl, (Input.okWide_of_okWideB (by kernel_rfl)).2,
      OpenSpec.preRow_of_cond 8 hx (by kernel_rfl) (fun k hk => by cases hk; kernel_rfl) (by kernel_rfl) (wit_metQ os _), by
        simp only [Assume.holds]
        exact ⟨by simp, by simp, fun _ => Modest.zero, by simp, by simp⟩⟩ ?_
  intro W base args ds gs before hval hW _ hcond hsz hL _ _
  exact measureJoins_contract H enc W base args ds gs before hval hW (hcond _ rfl) hsz hL

theorem measureJoins_said : Rows.MeasureJoinsUptoSaid :=
  OpenClaim.holds_of_cond 5 Tryz.f5 rfl rfl rfl rfl rfl rfl rfl ⟨rfl, rfl, rfl, rfl, rfl⟩ rfl rfl rfl rfl rfl (by kernel_rfl) Tryz.func5 (by kernel_rfl)
    (of_decide_eq_true (by kernel_rfl)) (by unfold Func.isWrapper; first | (rw [if_pos (by decide +kernel)]; kernel_rfl) | (rw [if_neg (by decide +kernel)]; exact ⟨rfl, rfl⟩))
    (fun os started H enc _ F => by rw [OpenClaim.pre_eq_preRow]; exact measureJoins_lifted os started H enc F)

theorem measureJoins_plain (f : FuncId) (fn : Func) (hf : Tryz.pinned.checked.prog.funcNamed Rows.measureJoinsUptoRow.func = some f) (hfn : Tryz.pinned.checked.prog.funcs[f]? = some fn) :
    true = Tryz.pinned.checked.prog.looks [] ∧ ∀ (j : Nat) t, fn.params[j]? = some t → Tryz.pinned.checked.prog.wantsStandIn t = false := by
  obtain rfl : f = 5 := Option.some.inj ((show Tryz.prog.funcNamed Rows.measureJoinsUptoRow.func = some 5 by kernel_rfl).symm.trans hf) |>.symm
  obtain rfl : fn = Tryz.f5 := (Option.some.inj (Tryz.func5.symm.trans hfn)).symm
  refine ⟨by kernel_rfl, fun j t ht => ?_⟩
  rw [Tryz.params5] at ht
  have hm : t ∈ ([22] : List Nat) := by have := Array.mem_of_getElem? ht; simp at this; simp; omega
  have hall : (([22] : List Nat).all fun u => !Tryz.prog.wantsStandIn u) = true := by kernel_rfl
  exact (show Tryz.prog.wantsStandIn t = false by simpa using List.all_eq_true.1 hall t hm)

theorem measureJoins_card : Rows.MeasureJoinsUptoCardSaid :=
  Claim7.holds_tied_plain_at .later [] _ _ _ _ measureJoins_said (fun _ h => by cases h) (by kernel_rfl) (fun _ h => by cases h) measureJoinsUpto_row_tie rfl ⟨rfl, rfl⟩ (by kernel_rfl) rfl measureJoins_plain (by kernel_rfl)
end Go.Proofs.YtgimcloadjjefabGreatDoor
