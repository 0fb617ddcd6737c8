/- Of all arguments within the bound vellumlaw10.ApplyPlays answers true and leaves them as they are: its card. -/
import Derived.Test.YtplnojapnaaakaaGreatDoorPSdN
import Derived.Test.YtplnojapnaaakaaGreatDoorPMga
import Derived.Test.YtplnojapnaaakaaGreatDoorPMgb
import Derived.Test.YtplnojapnaaakaaGreatDoorPMgj
namespace Go.Proofs.YtplnojapnaaakaaGreatDoor
open Go Go.RowKit Go.Lib Go.ChangeShapes Go.WideShapes Go.ChangeAt
set_option linter.unusedVariables false
theorem ixLN_in : ∀ i ∈ IR8, i ∈ ixLN := by decide
theorem sent_N {a : Nat → Addr} {w : World} (hS : Std ixLN a w) : Sent a w := by
  have e : all19 = ixLN := by decide
  unfold Sent
  rw [e]
  exact hS.er
theorem laidOutP : laidOutB Tryz.prog = true := by kernel_rfl
theorem small_core {a : Nat → Addr} (w : World) (hS : Std ixLN a w) (v0 : Value) (A0 : List Op5) (r0 : ReO w v0 A0) (f0 : FitL A0) (l0 : A0.length * 6 + 1 ≤ 1048576) (t0 : txtS A0 ≤ 1048576) (v1 : Value) (A1 : List Op5) (r1 : ReO w v1 A1) (f1 : FitL A1) (l1 : A1.length * 6 + 1 ≤ 1048576) (t1 : txtS A1 ≤ 1048576) :
    Calls Tryz.prog 7 #[v0, v1] w fun e w' => e = .returned (.bool true) ∧ Below w.heap.size w w' :=
  applyPlays_any v0 v1 A0 A1 w ixLN_in hS (sent_N hS) r0 r1 f0 f1 (by omega) t0 (by omega) t1

set_option maxRecDepth 100000 in
theorem applyPlays_contract (H : Type) (enc : TypeId × Value → H) (W : World) (base : Nat) (args : Array Value) (ds gs : List (DataW H)) (before : List MemPlace)
    (hval : ∀ (j : Nat) t v, Tryz.f7.params[j]? = some t → args[j]? = some v → Value.okWide Tryz.prog W .any base t v)
    (hW : DataW.Whole enc Tryz.prog Tryz.f7.params.toList Rows.applyPlaysSpec.vars false W args.toList ds gs before)
    (hcond : Rows.uptoSmall H (ds ++ gs) = true)
    (hsz : (DataW.weightsEach Tryz.prog (Tryz.f7.params.toList ++ Rows.applyPlaysSpec.plain.varTypes Tryz.prog) (ds ++ gs)).all (· ≤ reachBytes) = true) (hL : laidMetH Tryz.prog laidLN W) :
    Calls Tryz.prog 7 args W fun e W' => ∃ v, e = .returned v ∧ Rows.applyPlaysSpec.post enc Tryz.prog Tryz.f7 false true false false W args v W' := by
  have hW' := hW
  obtain ⟨p, q, hA0, hV, rfl, _, _⟩ := hW
  have hA : DataW.TrodAll enc Tryz.prog W 0 (fun _ => true) true Tryz.f7.params.toList args.toList ds p := hA0
  rw [Tryz.params7] at hA hval hsz
  obtain ⟨v0, vs0, d0, ds0, p0, q0, hargs, rfl, rfl, h0, r0⟩ := trodAll_cons hA
  obtain ⟨v1, vs1, d1, ds1, p1, q1, rfl, rfl, rfl, h1, r1⟩ := trodAll_cons r0
  obtain ⟨rfl, rfl, rfl⟩ := trodAll_nil r1
  obtain rfl : args = #[v0, v1] := by cases args; simp_all
  obtain ⟨rfl, rfl⟩ := trodVars_none hV
  obtain ⟨z0, hrow0, hlt0, hbl0, hbt0, hbs0⟩ := open_ops8 (hval 0 26 v0 rfl rfl) h0
  have hb0 := of_decide_eq_true hcond
  simp only [Rows.uptoBulkAll, List.append_nil] at hb0
  have hu0 : Rows.uptoBulk d0 ≤ 1048576 := by omega
  obtain ⟨z1, hrow1, hlt1, hbl1, hbt1, hbs1⟩ := open_ops8 (hval 1 26 v1 rfl rfl) h1
  have hb1 := of_decide_eq_true hcond
  simp only [Rows.uptoBulkAll, List.append_nil] at hb1
  have hu1 : Rows.uptoBulk d1 ≤ 1048576 := by omega
  obtain ⟨ad, hS⟩ := std_of_laidN hL
  refine (small_core W hS v0 z0 hrow0 (fitL_bulk hu0 hbs0) (Nat.le_trans hbl0 hu0) (Nat.le_trans hbt0 hu0) v1 z1 hrow1 (fitL_bulk hu1 hbs1) (Nat.le_trans hbl1 hu1) (Nat.le_trans hbt1 hu1)).mono fun e W' ⟨he, hb⟩ => ?_
  subst he
  exact ⟨_, rfl, _, _, _, _, _, _, hW', trodAll_mk1 (shut_bool Tryz.underlying4 _), (trodAll_cons_mk (hb.trod laidOutP (by kernel_rfl) (of_decide_eq_true (by kernel_rfl)) h0 hlt0) (trodAll_cons_mk (hb.trod laidOutP (by kernel_rfl) (of_decide_eq_true (by kernel_rfl)) h1 hlt1) trodAll_mk0)), rfl, hb.frame _, fun h => by cases h⟩

theorem applyPlays_reads (os : Os) {H : Type} (enc : TypeId × Value → H) : ∃ x, DataW.whole enc Tryz.prog ((World.laidAll Tryz.prog os laidLN).forCall (fun _ _ => 0) ⟨#[], #[.slice none 0 0, .slice none 0 0], []⟩).memory Tryz.f7.params.toList Rows.applyPlaysSpec.vars false #[(.slice none 0 0 : Value), .slice none 0 0].toList 8 = some x ∧ x.1 = [.nil, .nil] ∧ x.2.1 = [] :=
  ⟨([.nil, .nil], [], []), by kernel_rfl, rfl, rfl⟩

set_option maxRecDepth 100000 in
theorem applyPlays_lifted (os : Os) (started : os.Started) (H : Type) (enc : TypeId × Value → H) (F : Stop.Interp) :
    ReturnsInHanded {} Tryz.checked os 7 .any ((Rows.OpenSpec.upto Rows.applyPlaysSpec).preRow enc Tryz.prog Tryz.f7 Rows.applyPlaysUptoRow.domain false laidLN) (((Rows.OpenSpec.upto Rows.applyPlaysSpec).at F).post enc Tryz.prog Tryz.f7 false true false false) := by
  obtain ⟨⟨xd, xg, xp⟩, hx, e1, e2⟩ := applyPlays_reads os enc
  simp only at e1 e2
  subst e1; subst e2
  refine returnsInHanded_of_row (C := Tryz.checked) (s := (Rows.OpenSpec.upto Rows.applyPlaysSpec)) ownN started (by kernel_rfl) Tryz.func7
    ⟨World.laidAll Tryz.prog os laidLN, fun _ _ => 0, ⟨#[], #[.slice none 0 0, .slice none 0 0], []⟩, World.laidAll_os _ _ _, World.shaped_of_ZipB (by kernel_rfl) (by kernel_rfl), rfl, (Input.okWide_of_okWideB (by kernel_rfl)).2,
      OpenSpec.preRow_of_cond 8 hx (by kernel_rfl) (fun k hk => by cases hk; kernel_rfl) (by kernel_rfl) (wit_metN os _), by
        simp only [Assume.holds]
        exact ⟨by simp, by simp, fun _ => Modest.zero, by simp, by simp⟩⟩ ?_
  intro W base args ds gs before hval hW _ hcond hsz hL _ _
  exact applyPlays_contract H enc W base args ds gs before hval hW (hcond _ rfl) hsz hL

theorem applyPlays_said : Rows.ApplyPlaysUptoSaid :=
  OpenClaim.holds_of_cond 7 Tryz.f7 rfl rfl rfl rfl rfl rfl rfl ⟨rfl, rfl, rfl, rfl, rfl⟩ rfl rfl rfl rfl rfl (by kernel_rfl) Tryz.func7 (by kernel_rfl)
    (of_decide_eq_true (by kernel_rfl)) (by unfold Func.isWrapper; first | (rw [if_pos (by decide +kernel)]; kernel_rfl) | (rw [if_neg (by decide +kernel)]; exact ⟨rfl, rfl⟩))
    (fun os started H enc _ F => by rw [OpenClaim.pre_eq_preRow]; exact applyPlays_lifted os started H enc F)

theorem applyPlays_plain (f : FuncId) (fn : Func) (hf : Tryz.pinned.checked.prog.funcNamed Rows.applyPlaysUptoRow.func = some f) (hfn : Tryz.pinned.checked.prog.funcs[f]? = some fn) :
    true = Tryz.pinned.checked.prog.looks [] ∧ ∀ (j : Nat) t, fn.params[j]? = some t → Tryz.pinned.checked.prog.wantsStandIn t = false := by
  obtain rfl : f = 7 := Option.some.inj ((show Tryz.prog.funcNamed Rows.applyPlaysUptoRow.func = some 7 by kernel_rfl).symm.trans hf) |>.symm
  obtain rfl : fn = Tryz.f7 := (Option.some.inj (Tryz.func7.symm.trans hfn)).symm
  refine ⟨by kernel_rfl, fun j t ht => ?_⟩
  rw [Tryz.params7] at ht
  have hm : t ∈ ([26] : List Nat) := by have := Array.mem_of_getElem? ht; simp at this; simp; omega
  have hall : (([26] : List Nat).all fun u => !Tryz.prog.wantsStandIn u) = true := by kernel_rfl
  exact (show Tryz.prog.wantsStandIn t = false by simpa using List.all_eq_true.1 hall t hm)

theorem applyPlays_card : Rows.ApplyPlaysUptoCardSaid :=
  Claim7.holds_tied_plain_at .later [] _ _ _ _ applyPlays_said (fun _ h => by cases h) (by kernel_rfl) (fun _ h => by cases h) applyPlaysUpto_row_tie rfl ⟨rfl, rfl⟩ (by kernel_rfl) rfl applyPlays_plain (by kernel_rfl)
end Go.Proofs.YtplnojapnaaakaaGreatDoor
