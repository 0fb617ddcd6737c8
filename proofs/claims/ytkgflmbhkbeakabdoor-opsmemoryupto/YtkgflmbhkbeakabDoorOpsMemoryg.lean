/- Of all arguments within the bound vellumlaw05.OpsMemory answers true and leaves them as they are: its card. -/
import Derived.Test.YtkgflmbhkbeakabDoorSdG
import Derived.Test.YtkgflmbhkbeakabDoorOpp
import Derived.Test.YtkgflmbhkbeakabDoorMgb
namespace Go.Proofs.YtkgflmbhkbeakabDoor
open Go Go.RowKit Go.Lib Go.ChangeShapes Go.WideShapes Go.ChangeAt
set_option linter.unusedVariables false

theorem ixLG_in : ∀ i ∈ IxO, i ∈ ixLG := by decide
theorem sent_G {a : Nat → Addr} {w : World} (hS : Std ixLG a w) : Sent a w := by
  have e : all19 = ixLG := by decide
  unfold Sent
  rw [e]
  exact hS.er
theorem laidOutP : laidOutB Tryd.prog = true := by kernel_rfl
theorem memo5_core {a : Nat → Addr} (w : World) (hS : Std ixLG a w) (v0 : Value) (A0 : List Op5) (r0 : ReO w v0 A0) (f0 : FitL A0) (l0 : A0.length + 1 ≤ 1048576) :
    Calls Tryd.prog 5 #[v0] w fun e w' => e = .returned (.bool true) ∧ Below w.heap.size w w' :=
  opsMemory_any v0 A0 w ixLG_in hS (sent_G hS) r0 f0 (Nat.le_of_succ_le l0)

set_option maxRecDepth 100000 in
theorem opsMemory_contract (H : Type) (enc : TypeId × Value → H) (W : World) (base : Nat) (args : Array Value) (ds gs : List (DataW H)) (before : List MemPlace)
    (hval : ∀ (j : Nat) t v, Tryd.f5.params[j]? = some t → args[j]? = some v → Value.okWide Tryd.prog W .any base t v)
    (hW : DataW.Whole enc Tryd.prog Tryd.f5.params.toList Rows.opsMemorySpec.vars false W args.toList ds gs before)
    (hcond : Rows.uptoSmall H (ds ++ gs) = true)
    (hsz : (DataW.weightsEach Tryd.prog (Tryd.f5.params.toList ++ Rows.opsMemorySpec.plain.varTypes Tryd.prog) (ds ++ gs)).all (· ≤ reachBytes) = true) (hL : laidMetH Tryd.prog laidLG W) :
    Calls Tryd.prog 5 args W fun e W' => ∃ v, e = .returned v ∧ Rows.opsMemorySpec.post enc Tryd.prog Tryd.f5 false true false false W args v W' := by
  have hW' := hW
  obtain ⟨p, q, hA0, hV, rfl, _, _⟩ := hW
  have hA : DataW.TrodAll enc Tryd.prog W 0 (fun _ => true) true Tryd.f5.params.toList args.toList ds p := hA0
  rw [Tryd.params5] at hA hval hsz
  obtain ⟨v0, vs0, d0, ds0, p0, q0, hargs, rfl, rfl, h0, r0⟩ := trodAll_cons hA
  obtain ⟨rfl, rfl, rfl⟩ := trodAll_nil r0
  obtain rfl : args = #[v0] := by cases args; simp_all
  obtain ⟨rfl, rfl⟩ := trodVars_none hV
  obtain ⟨z0, hrow0, hlt0, hbl0, hbs0⟩ := open_ops (hval 0 22 v0 rfl rfl) h0
  have hb0 := of_decide_eq_true hcond
  simp only [Rows.uptoBulkAll, List.append_nil] at hb0
  have hu0 : Rows.uptoBulk d0 ≤ 1048576 := by omega
  obtain ⟨ad, hS⟩ := std_of_laidG hL
  refine (memo5_core W hS v0 z0 hrow0 (fitL_bulk hu0 hbs0) (Nat.le_trans hbl0 hu0)).mono fun e W' ⟨he, hb⟩ => ?_
  subst he
  exact ⟨_, rfl, _, _, _, _, _, _, hW', trodAll_mk1 (shut_bool Tryd.underlying4 _), (trodAll_cons_mk (hb.trod laidOutP (by kernel_rfl) (of_decide_eq_true (by kernel_rfl)) h0 hlt0) trodAll_mk0), rfl, hb.frame _, fun h => by cases h⟩

theorem opsMemory_reads (os : Os) {H : Type} (enc : TypeId × Value → H) : ∃ x, DataW.whole enc Tryd.prog ((World.laidAll Tryd.prog os laidLG).forCall (fun _ _ => 0) ⟨#[], #[.slice none 0 0], []⟩).memory Tryd.f5.params.toList Rows.opsMemorySpec.vars false #[(.slice none 0 0 : Value)].toList 8 = some x ∧ x.1 = [.nil] ∧ x.2.1 = [] :=
  ⟨([.nil], [], []), by kernel_rfl, rfl, rfl⟩

set_option maxRecDepth 100000 in
theorem opsMemory_lifted (os : Os) (started : os.Started) (H : Type) (enc : TypeId × Value → H) (F : Stop.Interp) :
    ReturnsInHanded {} Tryd.checked os 5 .any ((Rows.OpenSpec.upto Rows.opsMemorySpec).preRow enc Tryd.prog Tryd.f5 Rows.opsMemoryUptoRow.domain false laidLG) (((Rows.OpenSpec.upto Rows.opsMemorySpec).at F).post enc Tryd.prog Tryd.f5 false true false false) := by
  obtain ⟨⟨xd, xg, xp⟩, hx, e1, e2⟩ := opsMemory_reads os enc
  simp only at e1 e2
  subst e1; subst e2
  refine returnsInHanded_of_row (C := Tryd.checked) (s := (Rows.OpenSpec.upto Rows.opsMemorySpec)) ownG started (by kernel_rfl) Tryd.func5
    ⟨World.laidAll Tryd.prog os laidLG, fun _ _ => 0, ⟨#[], #[.slice none 0 0], []⟩, World.laidAll_os _ _ _, World.shaped_of_ZipB (by kernel_rfl) (by kernel_rfl), rfl, (Input.okWide_of_okWideB (by kernel_rfl)).2,
      OpenSpec.preRow_of_cond 8 hx (by kernel_rfl) (fun k hk => by cases hk; kernel_rfl) (by kernel_rfl) (wit_metG os _), by
        simp only [Assume.holds]
        exact ⟨by simp, by simp, fun _ => Modest.zero, by simp, by simp⟩⟩ ?_
  intro W base args ds gs before hval hW _ hcond hsz hL _ _
  exact opsMemory_contract H enc W base args ds gs before hval hW (hcond _ rfl) hsz hL

theorem opsMemory_said : Rows.OpsMemoryUptoSaid :=
  OpenClaim.holds_of_cond 5 Tryd.f5 rfl rfl rfl rfl rfl rfl rfl ⟨rfl, rfl, rfl, rfl, rfl⟩ rfl rfl rfl rfl rfl (by kernel_rfl) Tryd.func5 (by kernel_rfl)
    (of_decide_eq_true (by kernel_rfl)) (by unfold Func.isWrapper; first | (rw [if_pos (by decide +kernel)]; kernel_rfl) | (rw [if_neg (by decide +kernel)]; exact ⟨rfl, rfl⟩))
    (fun os started H enc _ F => by rw [OpenClaim.pre_eq_preRow]; exact opsMemory_lifted os started H enc F)

theorem opsMemory_plain (f : FuncId) (fn : Func) (hf : Tryd.pinned.checked.prog.funcNamed Rows.opsMemoryUptoRow.func = some f) (hfn : Tryd.pinned.checked.prog.funcs[f]? = some fn) :
    true = Tryd.pinned.checked.prog.looks [] ∧ ∀ (j : Nat) t, fn.params[j]? = some t → Tryd.pinned.checked.prog.wantsStandIn t = false := by
  obtain rfl : f = 5 := Option.some.inj ((show Tryd.prog.funcNamed Rows.opsMemoryUptoRow.func = some 5 by kernel_rfl).symm.trans hf) |>.symm
  obtain rfl : fn = Tryd.f5 := (Option.some.inj (Tryd.func5.symm.trans hfn)).symm
  refine ⟨by kernel_rfl, fun j t ht => ?_⟩
  rw [Tryd.params5] at ht
  have hm : t ∈ ([22] : List Nat) := by have := Array.mem_of_getElem? ht; simp at this; simp; omega
  have hall : (([22] : List Nat).all fun u => !Tryd.prog.wantsStandIn u) = true := by kernel_rfl
  exact (show Tryd.prog.wantsStandIn t = false by simpa using List.all_eq_true.1 hall t hm)

theorem opsMemory_card : Rows.OpsMemoryUptoCardSaid :=
  Claim7.holds_tied_plain_at .later [] _ _ _ _ opsMemory_said (fun _ h => by cases h) (by kernel_rfl) (fun _ h => by cases h) opsMemoryUpto_row_tie rfl ⟨rfl, rfl⟩ (by kernel_rfl) rfl opsMemory_plain (by kernel_rfl)
end Go.Proofs.YtkgflmbhkbeakabDoor
