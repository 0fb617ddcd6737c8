/- Of all arguments within the bound vellumlaw09.CellsOwns answers true and leaves them as they are: its card. -/
import Derived.Test.YthfpmhnnjjikcabGreatDoorPSdKe
import Derived.Test.YthfpmhnnjjikcabGreatDoorPOpp
import Derived.Test.YthfpmhnnjjikcabGreatDoorPMgc
import Derived.Test.YthfpmhnnjjikcabGreatDoorPMgg
namespace Go.Proofs.YthfpmhnnjjikcabGreatDoor
open Go Go.RowKit Go.Lib Go.ChangeShapes Go.WideShapes Go.ChangeAt
set_option linter.unusedVariables false
theorem ixLKe_in : ∀ i ∈ IR9, i ∈ ixLKe := by decide
theorem laidOutP : laidOutB Tryz.prog = true := by kernel_rfl
theorem cellsOwns_core {a : Nat → Addr} (w : World) (hS : Std ixLKe a w) (v0 : Value) (C0 : List CV) (A0 : List C5) (r0 : RowC w v0 C0) (m0 : Are w C0 A0) (f0 : ∀ e ∈ A0, FitC e) (l0 : A0.length + 1 ≤ 1048576) :
    Calls Tryz.prog 3 #[v0] w fun e w' => e = .returned (.bool true) ∧ Below w.heap.size w w' :=
  cellsOwns_row v0 C0 A0 w ixLKe_in hS r0 m0 f0 (Nat.le_of_succ_le l0)

set_option maxRecDepth 100000 in
theorem cellsOwns_contract (H : Type) (enc : TypeId × Value → H) (W : World) (base : Nat) (args : Array Value) (ds gs : List (DataW H)) (before : List MemPlace)
    (hval : ∀ (j : Nat) t v, Tryz.f3.params[j]? = some t → args[j]? = some v → Value.okWide Tryz.prog W .any base t v)
    (hW : DataW.Whole enc Tryz.prog Tryz.f3.params.toList Rows.cellsOwnsSpec.vars false W args.toList ds gs before)
    (hcond : Rows.uptoSmall H (ds ++ gs) = true)
    (hsz : (DataW.weightsEach Tryz.prog (Tryz.f3.params.toList ++ Rows.cellsOwnsSpec.plain.varTypes Tryz.prog) (ds ++ gs)).all (· ≤ reachBytes) = true) (hL : laidMetH Tryz.prog laidLKe W) :
    Calls Tryz.prog 3 args W fun e W' => ∃ v, e = .returned v ∧ Rows.cellsOwnsSpec.post enc Tryz.prog Tryz.f3 false true false false W args v W' := by
  have hW' := hW
  obtain ⟨p, q, hA0, hV, rfl, _, _⟩ := hW
  have hA : DataW.TrodAll enc Tryz.prog W 0 (fun _ => true) true Tryz.f3.params.toList args.toList ds p := hA0
  rw [Tryz.params3] at hA hval hsz
  obtain ⟨v0, vs0, d0, ds0, p0, q0, hargs, rfl, rfl, h0, r0⟩ := trodAll_cons hA
  obtain ⟨rfl, rfl, rfl⟩ := trodAll_nil r0
  obtain rfl : args = #[v0] := by cases args; simp_all
  obtain ⟨rfl, rfl⟩ := trodVars_none hV
  obtain ⟨C0, z0, hrow0, hare0, hlt0, hbl0, hbs0⟩ := open_cells9 (hval 0 22 v0 rfl rfl) h0
  have hb0 := of_decide_eq_true hcond
  simp only [Rows.uptoBulkAll, List.append_nil] at hb0
  have hu0 : Rows.uptoBulk d0 ≤ 1048576 := by omega
  obtain ⟨ad, hS⟩ := std_of_laidKe hL
  refine (cellsOwns_core W hS v0 C0 z0 hrow0 hare0 (fun e he => fitC_bulk hu0 (hbs0 e he)) (Nat.le_trans hbl0 hu0)).mono fun e W' ⟨he, hb⟩ => ?_
  subst he
  exact ⟨_, rfl, _, _, _, _, _, _, hW', trodAll_mk1 (shut_bool Tryz.underlying4 _), (trodAll_cons_mk (hb.trod laidOutP (by kernel_rfl) (of_decide_eq_true (by kernel_rfl)) h0 hlt0) trodAll_mk0), rfl, hb.frame _, fun h => by cases h⟩

theorem cellsOwns_reads (os : Os) {H : Type} (enc : TypeId × Value → H) : ∃ x, DataW.whole enc Tryz.prog ((World.laidAll Tryz.prog os laidLKe).forCall (fun _ _ => 0) ⟨#[], #[.slice none 0 0], []⟩).memory Tryz.f3.params.toList Rows.cellsOwnsSpec.vars false #[(.slice none 0 0 : Value)].toList 8 = some x ∧ x.1 = [.nil] ∧ x.2.1 = [] :=
  ⟨([.nil], [], []), by kernel_rfl, rfl, rfl⟩

set_option maxRecDepth 100000 in
theorem cellsOwns_lifted (os : Os) (started : os.Started) (H : Type) (enc : TypeId × Value → H) (F : Stop.Interp) :
    ReturnsInHanded {} Tryz.checked os 3 .any ((Rows.OpenSpec.upto Rows.cellsOwnsSpec).preRow enc Tryz.prog Tryz.f3 Rows.cellsOwnsUptoRow.domain false laidLKe) (((Rows.OpenSpec.upto Rows.cellsOwnsSpec).at F).post enc Tryz.prog Tryz.f3 false true false false) := by
  obtain ⟨⟨xd, xg, xp⟩, hx, e1, e2⟩ := cellsOwns_reads os enc
  simp only at e1 e2
  subst e1; subst e2
  refine returnsInHanded_of_row (C := Tryz.checked) (s := (Rows.OpenSpec.upto Rows.cellsOwnsSpec)) ownKe started (by kernel_rfl) Tryz.func3
    ⟨World.laidAll Tryz.prog os laidLKe, fun _ _ => 0, ⟨#[], #[.slice none 0 0], []⟩, World.laidAll_os _ _ _, World.shaped_of_ZipB (by kernel_rfl) (by kernel_rfl), rfl, (Input.okWide_of_okWideB (by kernel_rfl)).2,
      OpenSpec.preRow_of_cond 8 hx (by kernel_rfl) (fun k hk => by cases hk; kernel_rfl) (by kernel_rfl) (wit_metKe os _), by
        simp only [Assume.holds]
        exact ⟨by simp, by simp, fun _ => Modest.zero, by simp, by simp⟩⟩ ?_
  intro W base args ds gs before hval hW _ hcond hsz hL _ _
  exact cellsOwns_contract H enc W base args ds gs before hval hW (hcond _ rfl) hsz hL

theorem cellsOwns_said : Rows.CellsOwnsUptoSaid :=
  OpenClaim.holds_of_cond 3 Tryz.f3 rfl rfl rfl rfl rfl rfl rfl ⟨rfl, rfl, rfl, rfl, rfl⟩ rfl rfl rfl rfl rfl (by kernel_rfl) Tryz.func3 (by kernel_rfl)
    (of_decide_eq_true (by kernel_rfl)) (by unfold Func.isWrapper; first | (rw [if_pos (by decide +kernel)]; kernel_rfl) | (rw [if_neg (by decide +kernel)]; exact ⟨rfl, rfl⟩))
    (fun os started H enc _ F => by rw [OpenClaim.pre_eq_preRow]; exact cellsOwns_lifted os started H enc F)

theorem cellsOwns_plain (f : FuncId) (fn : Func) (hf : Tryz.pinned.checked.prog.funcNamed Rows.cellsOwnsUptoRow.func = some f) (hfn : Tryz.pinned.checked.prog.funcs[f]? = some fn) :
    true = Tryz.pinned.checked.prog.looks [] ∧ ∀ (j : Nat) t, fn.params[j]? = some t → Tryz.pinned.checked.prog.wantsStandIn t = false := by
  obtain rfl : f = 3 := Option.some.inj ((show Tryz.prog.funcNamed Rows.cellsOwnsUptoRow.func = some 3 by kernel_rfl).symm.trans hf) |>.symm
  obtain rfl : fn = Tryz.f3 := (Option.some.inj (Tryz.func3.symm.trans hfn)).symm
  refine ⟨by kernel_rfl, fun j t ht => ?_⟩
  rw [Tryz.params3] at ht
  have hm : t ∈ ([22] : List Nat) := by have := Array.mem_of_getElem? ht; simp at this; simp; omega
  have hall : (([22] : List Nat).all fun u => !Tryz.prog.wantsStandIn u) = true := by kernel_rfl
  exact (show Tryz.prog.wantsStandIn t = false by simpa using List.all_eq_true.1 hall t hm)

theorem cellsOwns_card : Rows.CellsOwnsUptoCardSaid :=
  Claim7.holds_tied_plain_at .later [] _ _ _ _ cellsOwns_said (fun _ h => by cases h) (by kernel_rfl) (fun _ h => by cases h) cellsOwnsUpto_row_tie rfl ⟨rfl, rfl⟩ (by kernel_rfl) rfl cellsOwns_plain (by kernel_rfl)
end Go.Proofs.YthfpmhnnjjikcabGreatDoor
