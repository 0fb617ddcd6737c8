/- Of all arguments within the bound vellumlaw08.MeasurePlays answers true and leaves them as they are: its card. -/
import Derived.Test.YtalfdjglbbmjcaaGreatDoorSdS
import Derived.Test.YtalfdjglbbmjcaaGreatDoorMga
import Derived.Test.YtalfdjglbbmjcaaGreatDoorMgb
import Derived.Test.YtalfdjglbbmjcaaGreatDoorMgj
namespace Go.Proofs.YtalfdjglbbmjcaaGreatDoor
open Go Go.RowKit Go.Lib Go.ChangeShapes Go.WideShapes Go.ChangeAt
set_option linter.unusedVariables false

theorem ixLS_in : ∀ i ∈ IR8, i ∈ ixLS := by decide
theorem sent_S {a : Nat → Addr} {w : World} (hS : Std ixLS a w) : Sent a w := by
  have e : all19 = ixLS := by decide
  unfold Sent
  rw [e]
  exact hS.er
theorem laidOutP : laidOutB Tryz.prog = true := by kernel_rfl
theorem measurePlays_core {a : Nat → Addr} (w : World) (hS : Std ixLS a w) (v0 : Value) (A0 : List Op5) (r0 : ReO w v0 A0) (f0 : FitL A0) (l0 : A0.length * 6 + 1 ≤ 1048576) (t0 : txtS A0 ≤ 1048576) (v1 : Value) (A1 : List Op5) (r1 : ReO w v1 A1) (f1 : FitL A1) (l1 : A1.length * 6 + 1 ≤ 1048576) (t1 : txtS A1 ≤ 1048576) (x2 : Int) (h2 : -9223372036854775808 ≤ x2 ∧ x2 ≤ 9223372036854775807) (x3 : Int) (h3 : -9223372036854775808 ≤ x3 ∧ x3 ≤ 9223372036854775807) (hsum : A0.length + A1.length + 1 ≤ 1048576) (htsum : txtS A0 + txtS A1 ≤ 1048576) :
    Calls Tryz.prog 7 #[v0, v1, .int .i64 x2, .int .i64 x3] w fun e w' => e = .returned (.bool true) ∧ Below w.heap.size w w' :=
  measurePlays_any v0 v1 x2 x3 A0 A1 w ixLS_in hS (sent_S hS) r0 r1 f0 f1 (by omega) t0 (by omega) t1 h2 h3 hsum htsum

set_option maxRecDepth 100000 in
theorem measurePlays_contract (H : Type) (enc : TypeId × Value → H) (W : World) (base : Nat) (args : Array Value) (ds gs : List (DataW H)) (before : List MemPlace)
    (hval : ∀ (j : Nat) t v, Tryz.f7.params[j]? = some t → args[j]? = some v → Value.okWide Tryz.prog W .any base t v)
    (hW : DataW.Whole enc Tryz.prog Tryz.f7.params.toList Rows.measurePlaysSpec.vars false W args.toList ds gs before)
    (hcond : Rows.uptoSmall H (ds ++ gs) = true)
    (hsz : (DataW.weightsEach Tryz.prog (Tryz.f7.params.toList ++ Rows.measurePlaysSpec.plain.varTypes Tryz.prog) (ds ++ gs)).all (· ≤ reachBytes) = true) (hL : laidMetH Tryz.prog laidLS W) :
    Calls Tryz.prog 7 args W fun e W' => ∃ v, e = .returned v ∧ Rows.measurePlaysSpec.post enc Tryz.prog Tryz.f7 false true false false W args v W' := by
  have hW' := hW
  obtain ⟨p, q, hA0, hV, rfl, _, _⟩ := hW
  have hA : DataW.TrodAll enc Tryz.prog W 0 (fun _ => true) true Tryz.f7.params.toList args.toList ds p := hA0
  rw [Tryz.params7] at hA hval hsz
  obtain ⟨v0, vs0, d0, ds0, p0, q0, hargs, rfl, rfl, h0, r0⟩ := trodAll_cons hA
  obtain ⟨v1, vs1, d1, ds1, p1, q1, rfl, rfl, rfl, h1, r1⟩ := trodAll_cons r0
  obtain ⟨v2, vs2, d2, ds2, p2, q2, rfl, rfl, rfl, h2, r2⟩ := trodAll_cons r1
  obtain ⟨v3, vs3, d3, ds3, p3, q3, rfl, rfl, rfl, h3, r3⟩ := trodAll_cons r2
  obtain ⟨rfl, rfl, rfl⟩ := trodAll_nil r3
  obtain rfl : args = #[v0, v1, v2, v3] := by cases args; simp_all
  obtain ⟨rfl, rfl⟩ := trodVars_none hV
  obtain ⟨z0, hrow0, hlt0, hbl0, hbt0, hbs0⟩ := open_ops8 (hval 0 26 v0 rfl rfl) h0
  have hb0 := of_decide_eq_true hcond
  simp only [Rows.uptoBulkAll, List.append_nil] at hb0
  have hu0 : Rows.uptoBulk d0 ≤ 1048576 := by omega
  obtain ⟨z1, hrow1, hlt1, hbl1, hbt1, hbs1⟩ := open_ops8 (hval 1 26 v1 rfl rfl) h1
  have hb1 := of_decide_eq_true hcond
  simp only [Rows.uptoBulkAll, List.append_nil] at hb1
  have hu1 : Rows.uptoBulk d1 ≤ 1048576 := by omega
  obtain ⟨x2, rfl, rfl, rfl, wx2⟩ := open_int Tryz.underlying3 (hval 2 3 v2 rfl rfl) h2
  have hx2 : -9223372036854775808 ≤ x2 ∧ x2 ≤ 9223372036854775807 := by simpa [Lit.wf, IntKind.min, IntKind.max, IntKind.signed, IntKind.bits] using wx2
  obtain ⟨x3, rfl, rfl, rfl, wx3⟩ := open_int Tryz.underlying3 (hval 3 3 v3 rfl rfl) h3
  have hx3 : -9223372036854775808 ≤ x3 ∧ x3 ≤ 9223372036854775807 := by simpa [Lit.wf, IntKind.min, IntKind.max, IntKind.signed, IntKind.bits] using wx3
  obtain ⟨ad, hS⟩ := std_of_laidS hL
  refine (measurePlays_core W hS v0 z0 hrow0 (fitL_bulk hu0 hbs0) (Nat.le_trans hbl0 hu0) (Nat.le_trans hbt0 hu0) v1 z1 hrow1 (fitL_bulk hu1 hbs1) (Nat.le_trans hbl1 hu1) (Nat.le_trans hbt1 hu1) x2 hx2 x3 hx3 (by omega) (by omega)).mono fun e W' ⟨he, hb⟩ => ?_
  subst he
  exact ⟨_, rfl, _, _, _, _, _, _, hW', trodAll_mk1 (shut_bool Tryz.underlying4 _), (trodAll_cons_mk (hb.trod laidOutP (by kernel_rfl) (of_decide_eq_true (by kernel_rfl)) h0 hlt0) (trodAll_cons_mk (hb.trod laidOutP (by kernel_rfl) (of_decide_eq_true (by kernel_rfl)) h1 hlt1) (trodAll_cons_mk (shut_int Tryz.underlying3 wx2) (trodAll_cons_mk (shut_int Tryz.underlying3 wx3) trodAll_mk0)))), rfl, hb.frame _, fun h => by cases h⟩

theorem measurePlays_reads (os : Os) {H : Type} (enc : TypeId × Value → H) : ∃ x, DataW.whole enc Tryz.prog ((World.laidAll Tryz.prog os laidLS).forCall (fun _ _ => 0) ⟨#[], #[.slice none 0 0, .slice none 0 0, .int .i64 0, .int .i64 0], []⟩).memory Tryz.f7.params.toList Rows.measurePlaysSpec.vars false #[(.slice none 0 0 : Value), .slice none 0 0, .int .i64 0, .int .i64 0].toList 8 = some x ∧ x.1 = [.nil, .nil, .lit (.int .i64 0), .lit (.int .i64 0)] ∧ x.2.1 = [] :=
  ⟨([.nil, .nil, .lit (.int .i64 0), .lit (.int .i64 0)], [], []), by kernel_rfl, rfl, rfl⟩

set_option maxRecDepth 100000 in
theorem measurePlays_lifted (os : Os) (started : os.Started) (H : Type) (enc : TypeId × Value → H) (F : Stop.Interp) :
    ReturnsInHanded {} Tryz.checked os 7 .any ((Rows.OpenSpec.upto Rows.measurePlaysSpec).preRow enc Tryz.prog Tryz.f7 Rows.measurePlaysUptoRow.domain false laidLS) (((Rows.OpenSpec.upto Rows.measurePlaysSpec).at F).post enc Tryz.prog Tryz.f7 false true false false) := by
  obtain ⟨⟨xd, xg, xp⟩, hx, e1, e2⟩ := measurePlays_reads os enc
  simp only at e1 e2
  subst e1; subst e2
  refine returnsInHanded_of_row (C := Tryz.checked) (s := (Rows.OpenSpec.upto Rows.measurePlaysSpec)) ownS started (by kernel_rfl) Tryz.func7
    ⟨World.laidAll Tryz.prog os laidLS, fun _ _ => 0, ⟨#[], #[.slice none 0 0, .slice none 0 0, .int .i64 0, .int .i64 0], []⟩, World.laidAll_os _ _ _, World.shaped_of_ZipB (by kernel_rfl) (by kernel_rfl), rfl, (Input.okWide_of_okWideB (by kernel_rfl)).2,
      OpenSpec.preRow_of_cond 8 hx (by kernel_rfl) (fun k hk => by cases hk; kernel_rfl) (by kernel_rfl) (wit_metS os _), by
        simp only [Assume.holds]
        exact ⟨by simp, by simp, fun _ => Modest.zero, by simp, by simp⟩⟩ ?_
  intro W base args ds gs before hval hW _ hcond hsz hL _ _
  exact measurePlays_contract H enc W base args ds gs before hval hW (hcond _ rfl) hsz hL

theorem measurePlays_said : Rows.MeasurePlaysUptoSaid :=
  OpenClaim.holds_of_cond 7 Tryz.f7 rfl rfl rfl rfl rfl rfl rfl ⟨rfl, rfl, rfl, rfl, rfl⟩ rfl rfl rfl rfl rfl (by kernel_rfl) Tryz.func7 (by kernel_rfl)
    (of_decide_eq_true (by kernel_rfl)) (by unfold Func.isWrapper; first | (rw [if_pos (by decide +kernel)]; kernel_rfl) | (rw [if_neg (by decide +kernel)]; exact ⟨rfl, rfl⟩))
    (fun os started H enc _ F => by rw [OpenClaim.pre_eq_preRow]; exact measurePlays_lifted os started H enc F)

theorem measurePlays_plain (f : FuncId) (fn : Func) (hf : Tryz.pinned.checked.prog.funcNamed Rows.measurePlaysUptoRow.func = some f) (hfn : Tryz.pinned.checked.prog.funcs[f]? = some fn) :
    true = Tryz.pinned.checked.prog.looks [] ∧ ∀ (j : Nat) t, fn.params[j]? = some t → Tryz.pinned.checked.prog.wantsStandIn t = false := by
  obtain rfl : f = 7 := Option.some.inj ((show Tryz.prog.funcNamed Rows.measurePlaysUptoRow.func = some 7 by kernel_rfl).symm.trans hf) |>.symm
  obtain rfl : fn = Tryz.f7 := (Option.some.inj (Tryz.func7.symm.trans hfn)).symm
  refine ⟨by kernel_rfl, fun j t ht => ?_⟩
  rw [Tryz.params7] at ht
  have hm : t ∈ ([26, 3] : List Nat) := by have := Array.mem_of_getElem? ht; simp at this; simp; omega
  have hall : (([26, 3] : List Nat).all fun u => !Tryz.prog.wantsStandIn u) = true := by kernel_rfl
  exact (show Tryz.prog.wantsStandIn t = false by simpa using List.all_eq_true.1 hall t hm)

theorem measurePlays_card : Rows.MeasurePlaysUptoCardSaid :=
  Claim7.holds_tied_plain_at .later [] _ _ _ _ measurePlays_said (fun _ h => by cases h) (by kernel_rfl) (fun _ h => by cases h) measurePlaysUpto_row_tie rfl ⟨rfl, rfl⟩ (by kernel_rfl) rfl measurePlays_plain (by kernel_rfl)
end Go.Proofs.YtalfdjglbbmjcaaGreatDoor
