/- Of all pairs of Plains within the bound vellumlaw02.ValuesPlays answers true and leaves them as they are: its card. -/
import Derived.Test.YtlmibpfikafbdaaDoorSdA
import Derived.Test.YtlmibpfikafbdaaDoorPl
import Derived.Test.YtlmibpfikafbdaaDoorPlaysv
namespace Go.Proofs.YtlmibpfikafbdaaDoor
open Go Go.RowKit Go.Lib Go.ChangeShapes Go.WideShapes Go.ChangeAt
set_option linter.unusedVariables false

theorem ixLA_in : ∀ i ∈ [0, 3, 4, 9], i ∈ ixLA := by decide
theorem sent_A {a : Nat → Addr} {w : World} (hS : Std ixLA a w) : Sent a w := by
  have e : all19 = ixLA := by decide
  unfold Sent
  rw [e]
  exact hS.er
theorem inr_rng {z : Int} (h : inr z) : rngB z = true := rngB_iff.2 h
theorem plays_core {a : Nat → Addr} (w : World) (hS : Std ixLA a w) (hT : Strc w) (k n : Int) (t : ByteArray) (hk : inr k) (hn : inr n) (ht : t.size ≤ 1048576) (k' n' : Int) (t' : ByteArray) (hk' : inr k') (hn' : inr n') (ht' : t'.size ≤ 1048576) :
    Calls Tryd.prog 3 #[pl k n t, pl k' n' t'] w fun e w' => e = .returned (.bool true) ∧ Below w.heap.size w w' :=
  plays_walk k n t k' n' t' w ixLA_in hS (sent_A hS) hT (inr_rng hn) (by omega)

set_option maxRecDepth 100000 in
theorem valuesPlays_contract (H : Type) (enc : TypeId × Value → H) (W : World) (base : Nat) (args : Array Value) (ds gs : List (DataW H)) (before : List MemPlace)
    (hval : ∀ (j : Nat) t v, Tryd.f3.params[j]? = some t → args[j]? = some v → Value.okWide Tryd.prog W .any base t v)
    (hW : DataW.Whole enc Tryd.prog Tryd.f3.params.toList Rows.valuesPlaysSpec.vars false W args.toList ds gs before)
    (hcond : Rows.uptoSmall H (ds ++ gs) = true)
    (hsz : (DataW.weightsEach Tryd.prog (Tryd.f3.params.toList ++ Rows.valuesPlaysSpec.plain.varTypes Tryd.prog) (ds ++ gs)).all (· ≤ reachBytes) = true) (hL : laidMetH Tryd.prog laidLA W) :
    Calls Tryd.prog 3 args W fun e W' => ∃ v, e = .returned v ∧ Rows.valuesPlaysSpec.post enc Tryd.prog Tryd.f3 false true false false W args v W' := by
  have hW' := hW
  obtain ⟨p, q, hA0, hV, rfl, _, _⟩ := hW
  have hA : DataW.TrodAll enc Tryd.prog W 0 (fun _ => true) true Tryd.f3.params.toList args.toList ds p := hA0
  rw [Tryd.params3] at hA hval hsz
  obtain ⟨v0, vs0, d0, ds0, p0, q0, hargs, rfl, rfl, h0, r0⟩ := trodAll_cons hA
  obtain ⟨v1, vs1, d1, ds1, p1, q1, rfl, rfl, rfl, h1, r1⟩ := trodAll_cons r0
  obtain ⟨rfl, rfl, rfl⟩ := trodAll_nil r1
  obtain rfl : args = #[v0, v1] := by cases args; simp_all
  obtain ⟨rfl, rfl⟩ := trodVars_none hV
  obtain ⟨k0, n0, t0, rfl, rfl, rfl, hk0, hn0, ht0⟩ := open_plain (hval 0 23 v0 rfl rfl) h0 hsz (j := 0) rfl rfl
  have hu0 : t0.size ≤ 1048576 := by
    have := of_decide_eq_true hcond
    simp only [Rows.uptoBulkAll, Rows.uptoBulk, List.append_nil, size_toList] at this
    omega
  obtain ⟨k1, n1, t1, rfl, rfl, rfl, hk1, hn1, ht1⟩ := open_plain (hval 1 23 v1 rfl rfl) h1 hsz (j := 1) rfl rfl
  have hu1 : t1.size ≤ 1048576 := by
    have := of_decide_eq_true hcond
    simp only [Rows.uptoBulkAll, Rows.uptoBulk, List.append_nil, size_toList] at this
    omega
  obtain ⟨ad, hS⟩ := std_of_laidA hL
  have hT := strc_of_laidA hL
  refine (plays_core W hS hT k0 n0 t0 hk0 hn0 hu0 k1 n1 t1 hk1 hn1 hu1).mono fun e W' ⟨he, hb⟩ => ?_
  subst he
  exact ⟨_, rfl, _, _, _, _, _, _, hW', trodAll_mk1 (shut_bool Tryd.underlying4 _), (trodAll_cons_mk (shut_plain hk0 hn0 ht0) (trodAll_cons_mk (shut_plain hk1 hn1 ht1) trodAll_mk0)), rfl, hb.frame _, fun h => by cases h⟩

theorem valuesPlays_reads (os : Os) {H : Type} (enc : TypeId × Value → H) : ∃ x, DataW.whole enc Tryd.prog ((World.laidAll Tryd.prog os laidLA).forCall (fun _ _ => 0) ⟨#[], #[.agg #[.int .i64 0, .int .i64 0, .string ByteArray.empty], .agg #[.int .i64 0, .int .i64 0, .string ByteArray.empty]], []⟩).memory Tryd.f3.params.toList Rows.valuesPlaysSpec.vars false #[(.agg #[.int .i64 0, .int .i64 0, .string ByteArray.empty] : Value), .agg #[.int .i64 0, .int .i64 0, .string ByteArray.empty]].toList 8 = some x ∧ x.1 = [.agg [.lit (.int .i64 0), .lit (.int .i64 0), .lit (.string [])], .agg [.lit (.int .i64 0), .lit (.int .i64 0), .lit (.string [])]] ∧ x.2.1 = [] :=
  ⟨([.agg [.lit (.int .i64 0), .lit (.int .i64 0), .lit (.string [])], .agg [.lit (.int .i64 0), .lit (.int .i64 0), .lit (.string [])]], [], []), by kernel_rfl, rfl, rfl⟩

set_option maxRecDepth 100000 in
theorem valuesPlays_lifted (os : Os) (started : os.Started) (H : Type) (enc : TypeId × Value → H) (F : Stop.Interp) :
    ReturnsInHanded {} Tryd.checked os 3 .any ((Rows.OpenSpec.upto Rows.valuesPlaysSpec).preRow enc Tryd.prog Tryd.f3 Rows.valuesPlaysUptoRow.domain false laidLA) (((Rows.OpenSpec.upto Rows.valuesPlaysSpec).at F).post enc Tryd.prog Tryd.f3 false true false false) := by
  obtain ⟨⟨xd, xg, xp⟩, hx, e1, e2⟩ := valuesPlays_reads os enc
  simp only at e1 e2
  subst e1; subst e2
  refine returnsInHanded_of_row (C := Tryd.checked) (s := (Rows.OpenSpec.upto Rows.valuesPlaysSpec)) ownA started (by kernel_rfl) Tryd.func3
    ⟨World.laidAll Tryd.prog os laidLA, fun _ _ => 0, ⟨#[], #[.agg #[.int .i64 0, .int .i64 0, .string ByteArray.empty], .agg #[.int .i64 0, .int .i64 0, .string ByteArray.empty]], []⟩, World.laidAll_os _ _ _, World.shaped_of_ZipB (by kernel_rfl) (by kernel_rfl), rfl, (Input.okWide_of_okWideB (by kernel_rfl)).2,
      OpenSpec.preRow_of_cond 8 hx (by kernel_rfl) (fun k hk => by cases hk; kernel_rfl) (by kernel_rfl) (wit_metA os _), by
        simp only [Assume.holds]
        exact ⟨by simp, by simp, fun _ => Modest.zero, by simp, by simp⟩⟩ ?_
  intro W base args ds gs before hval hW _ hcond hsz hL _ _
  exact valuesPlays_contract H enc W base args ds gs before hval hW (hcond _ rfl) hsz hL

theorem valuesPlays_said : Rows.ValuesPlaysUptoSaid :=
  OpenClaim.holds_of_cond 3 Tryd.f3 rfl rfl rfl rfl rfl rfl rfl ⟨rfl, rfl, rfl, rfl, rfl⟩ rfl rfl rfl rfl rfl (by kernel_rfl) Tryd.func3 (by kernel_rfl)
    (of_decide_eq_true (by kernel_rfl)) (by unfold Func.isWrapper; first | (rw [if_pos (by decide +kernel)]; kernel_rfl) | (rw [if_neg (by decide +kernel)]; exact ⟨rfl, rfl⟩))
    (fun os started H enc _ F => by rw [OpenClaim.pre_eq_preRow]; exact valuesPlays_lifted os started H enc F)

theorem valuesPlays_plain (f : FuncId) (fn : Func) (hf : Tryd.pinned.checked.prog.funcNamed Rows.valuesPlaysUptoRow.func = some f) (hfn : Tryd.pinned.checked.prog.funcs[f]? = some fn) :
    true = Tryd.pinned.checked.prog.looks [] ∧ ∀ (j : Nat) t, fn.params[j]? = some t → Tryd.pinned.checked.prog.wantsStandIn t = false := by
  obtain rfl : f = 3 := Option.some.inj ((show Tryd.prog.funcNamed Rows.valuesPlaysUptoRow.func = some 3 by kernel_rfl).symm.trans hf) |>.symm
  obtain rfl : fn = Tryd.f3 := (Option.some.inj (Tryd.func3.symm.trans hfn)).symm
  refine ⟨by kernel_rfl, fun j t ht => ?_⟩
  rw [Tryd.params3] at ht
  have hm : t ∈ ([23] : List Nat) := by have := Array.mem_of_getElem? ht; simp at this; simp; omega
  have hall : (([23] : List Nat).all fun u => !Tryd.prog.wantsStandIn u) = true := by kernel_rfl
  exact (show Tryd.prog.wantsStandIn t = false by simpa using List.all_eq_true.1 hall t hm)

theorem valuesPlays_card : Rows.ValuesPlaysUptoCardSaid :=
  Claim7.holds_tied_plain_at .later [] _ _ _ _ valuesPlays_said (fun _ h => by cases h) (by kernel_rfl) (fun _ h => by cases h) valuesPlaysUpto_row_tie rfl ⟨rfl, rfl⟩ (by kernel_rfl) rfl valuesPlays_plain (by kernel_rfl)
end Go.Proofs.YtlmibpfikafbdaaDoor
