/- Of all lists of Plains within the bound vellumlaw02.ValuesLists answers true and leaves them as they are: its card. -/
import Derived.Test.YtlmibpfikafbdaaDoorSdA
import Derived.Test.YtlmibpfikafbdaaDoorOpl
import Derived.Test.YtlmibpfikafbdaaDoorListsv
import Derived.Test.YtlmibpfikafbdaaDoorListsb
namespace Go.Proofs.YtlmibpfikafbdaaDoor
open Go Go.RowKit Go.Lib Go.ChangeShapes Go.WideShapes Go.ChangeAt
set_option linter.unusedVariables false

theorem ixLA_inl : ∀ i ∈ [0, 3, 4, 9], i ∈ ixLA := by decide
theorem sent_Al {a : Nat → Addr} {w : World} (hS : Std ixLA a w) : Sent a w := by
  have e : all19 = ixLA := by decide
  unfold Sent
  rw [e]
  exact hS.er
theorem laidOutP : laidOutB Tryd.prog = true := by kernel_rfl
/-- The first of a list that isn't good. -/
theorem first_badP : ∀ ps : List P3, (∀ q ∈ ps, chkP q = 0) ∨ ∃ m q, m < ps.length ∧ ps[m]? = some q ∧ chkP q ≠ 0 ∧ ∀ (j : Nat) q, j < m → ps[j]? = some q → chkP q = 0
  | [] => Or.inl (by simp)
  | p :: r => by
    by_cases h : chkP p = 0
    · rcases first_badP r with h1 | ⟨m, q, h1, h2, h3, h4⟩
      · exact Or.inl fun q hq => by rcases List.mem_cons.1 hq with rfl | hq; exact h; exact h1 q hq
      · refine Or.inr ⟨m + 1, q, by simpa using h1, by simpa using h2, h3, fun j q hj hq => ?_⟩
        cases j with
        | zero => obtain rfl : p = q := by simpa using hq
                  exact h
        | succ j => exact h4 j q (by omega) (by simpa using hq)
    · exact Or.inr ⟨0, p, by simp, rfl, h, fun j q hj _ => by omega⟩
theorem lists_core {a : Nat → Addr} (w : World) (hS : Std ixLA a w) (hT : Strc w) (v : Value) (ps : List P3) (hv : RowP w v ps) (hv0 : ∀ m c, v = .slice none m c → c = 0) (hl : ps.length ≤ 1048576) (hs : ∀ q ∈ ps, q.2.2.size ≤ 1048576) :
    Calls Tryd.prog 5 #[v] w fun e w' => e = .returned (.bool true) ∧ Below w.heap.size w w' := by
  rcases first_badP ps with h | ⟨m, q, h1, h2, h3, h4⟩
  · exact lists_good v ps w ixLA_inl hS (sent_Al hS) hT hv hv0 hl hs h
  · have hle := chk_le q.1 q.2.1 q.2.2
    have h3' : chk q.1 q.2.1 q.2.2 ≠ 0 := h3
    exact lists_bad v ps w ixLA_inl hS (sent_Al hS) hT hv hv0 hl hs m (chkP q - 1) h1 h4 (fun q' hq' => by rw [h2] at hq'; obtain rfl := Option.some.inj hq'; omega) (by show chk q.1 q.2.1 q.2.2 - 1 + 1 ≤ 19; omega)

set_option maxRecDepth 100000 in
theorem valuesLists_contract (H : Type) (enc : TypeId × Value → H) (W : World) (base : Nat) (args : Array Value) (ds gs : List (DataW H)) (before : List MemPlace)
    (hval : ∀ (j : Nat) t v, Tryd.f5.params[j]? = some t → args[j]? = some v → Value.okWide Tryd.prog W .any base t v)
    (hW : DataW.Whole enc Tryd.prog Tryd.f5.params.toList Rows.valuesListsSpec.vars false W args.toList ds gs before)
    (hcond : Rows.uptoSmall H (ds ++ gs) = true)
    (hsz : (DataW.weightsEach Tryd.prog (Tryd.f5.params.toList ++ Rows.valuesListsSpec.plain.varTypes Tryd.prog) (ds ++ gs)).all (· ≤ reachBytes) = true) (hL : laidMetH Tryd.prog laidLA W) :
    Calls Tryd.prog 5 args W fun e W' => ∃ v, e = .returned v ∧ Rows.valuesListsSpec.post enc Tryd.prog Tryd.f5 false true false false W args v W' := by
  have hW' := hW
  obtain ⟨p, q, hA0, hV, rfl, _, _⟩ := hW
  have hA : DataW.TrodAll enc Tryd.prog W 0 (fun _ => true) true Tryd.f5.params.toList args.toList ds p := hA0
  rw [Tryd.params5] at hA hval hsz
  obtain ⟨v0, vs0, d0, ds0, p0, q0, hargs, rfl, rfl, h0, r0⟩ := trodAll_cons hA
  obtain ⟨rfl, rfl, rfl⟩ := trodAll_nil r0
  obtain rfl : args = #[v0] := by cases args; simp_all
  obtain ⟨rfl, rfl⟩ := trodVars_none hV
  obtain ⟨z0, hrow0, hz0, hlt0, hbl0, hbs0⟩ := open_rowP (hval 0 45 v0 rfl rfl) h0
  have hb0 := of_decide_eq_true hcond
  simp only [Rows.uptoBulkAll, List.append_nil] at hb0
  have hu0 : z0.length ≤ 1048576 := by omega
  have hs0 : ∀ q ∈ z0, q.2.2.size ≤ 1048576 := fun q hq => by have := hbs0 q hq; omega
  obtain ⟨ad, hS⟩ := std_of_laidA hL
  have hT := strc_of_laidA hL
  refine (lists_core W hS hT v0 z0 hrow0 hz0 hu0 hs0).mono fun e W' ⟨he, hb⟩ => ?_
  subst he
  exact ⟨_, rfl, _, _, _, _, _, _, hW', trodAll_mk1 (shut_bool Tryd.underlying4 _), (trodAll_cons_mk (hb.trod laidOutP (by kernel_rfl) (of_decide_eq_true (by kernel_rfl)) h0 hlt0) trodAll_mk0), rfl, hb.frame _, fun h => by cases h⟩

theorem valuesLists_reads (os : Os) {H : Type} (enc : TypeId × Value → H) : ∃ x, DataW.whole enc Tryd.prog ((World.laidAll Tryd.prog os laidLA).forCall (fun _ _ => 0) ⟨#[], #[.slice none 0 0], []⟩).memory Tryd.f5.params.toList Rows.valuesListsSpec.vars false #[(.slice none 0 0 : Value)].toList 8 = some x ∧ x.1 = [.nil] ∧ x.2.1 = [] :=
  ⟨([.nil], [], []), by kernel_rfl, rfl, rfl⟩

set_option maxRecDepth 100000 in
theorem valuesLists_lifted (os : Os) (started : os.Started) (H : Type) (enc : TypeId × Value → H) (F : Stop.Interp) :
    ReturnsInHanded {} Tryd.checked os 5 .any ((Rows.OpenSpec.upto Rows.valuesListsSpec).preRow enc Tryd.prog Tryd.f5 Rows.valuesListsUptoRow.domain false laidLA) (((Rows.OpenSpec.upto Rows.valuesListsSpec).at F).post enc Tryd.prog Tryd.f5 false true false false) := by
  obtain ⟨⟨xd, xg, xp⟩, hx, e1, e2⟩ := valuesLists_reads os enc
  simp only at e1 e2
  subst e1; subst e2
  refine returnsInHanded_of_row (C := Tryd.checked) (s := (Rows.OpenSpec.upto Rows.valuesListsSpec)) ownA started (by kernel_rfl) Tryd.func5
    ⟨World.laidAll Tryd.prog os laidLA, fun _ _ => 0, ⟨#[], #[.slice none 0 0], []⟩, World.laidAll_os _ _ _, World.shaped_of_ZipB (by kernel_rfl) (by kernel_rfl), rfl, (Input.okWide_of_okWideB (by kernel_rfl)).2,
      OpenSpec.preRow_of_cond 8 hx (by kernel_rfl) (fun k hk => by cases hk; kernel_rfl) (by kernel_rfl) (wit_metA os _), by
        simp only [Assume.holds]
        exact ⟨by simp, by simp, fun _ => Modest.zero, by simp, by simp⟩⟩ ?_
  intro W base args ds gs before hval hW _ hcond hsz hL _ _
  exact valuesLists_contract H enc W base args ds gs before hval hW (hcond _ rfl) hsz hL

theorem valuesLists_said : Rows.ValuesListsUptoSaid :=
  OpenClaim.holds_of_cond 5 Tryd.f5 rfl rfl rfl rfl rfl rfl rfl ⟨rfl, rfl, rfl, rfl, rfl⟩ rfl rfl rfl rfl rfl (by kernel_rfl) Tryd.func5 (by kernel_rfl)
    (of_decide_eq_true (by kernel_rfl)) (by unfold Func.isWrapper; first | (rw [if_pos (by decide +kernel)]; kernel_rfl) | (rw [if_neg (by decide +kernel)]; exact ⟨rfl, rfl⟩))
    (fun os started H enc _ F => by rw [OpenClaim.pre_eq_preRow]; exact valuesLists_lifted os started H enc F)

theorem valuesLists_plain (f : FuncId) (fn : Func) (hf : Tryd.pinned.checked.prog.funcNamed Rows.valuesListsUptoRow.func = some f) (hfn : Tryd.pinned.checked.prog.funcs[f]? = some fn) :
    true = Tryd.pinned.checked.prog.looks [] ∧ ∀ (j : Nat) t, fn.params[j]? = some t → Tryd.pinned.checked.prog.wantsStandIn t = false := by
  obtain rfl : f = 5 := Option.some.inj ((show Tryd.prog.funcNamed Rows.valuesListsUptoRow.func = some 5 by kernel_rfl).symm.trans hf) |>.symm
  obtain rfl : fn = Tryd.f5 := (Option.some.inj (Tryd.func5.symm.trans hfn)).symm
  refine ⟨by kernel_rfl, fun j t ht => ?_⟩
  rw [Tryd.params5] at ht
  have hm : t ∈ ([45] : List Nat) := by have := Array.mem_of_getElem? ht; simp at this; simp; omega
  have hall : (([45] : List Nat).all fun u => !Tryd.prog.wantsStandIn u) = true := by kernel_rfl
  exact (show Tryd.prog.wantsStandIn t = false by simpa using List.all_eq_true.1 hall t hm)

theorem valuesLists_card : Rows.ValuesListsUptoCardSaid :=
  Claim7.holds_tied_plain_at .later [] _ _ _ _ valuesLists_said (fun _ h => by cases h) (by kernel_rfl) (fun _ h => by cases h) valuesListsUpto_row_tie rfl ⟨rfl, rfl⟩ (by kernel_rfl) rfl valuesLists_plain (by kernel_rfl)
end Go.Proofs.YtlmibpfikafbdaaDoor
