/- Of all lists vellumlaw03.AttrsUndone answers true and leaves them as they are: its card. -/
import Derived.Test.YtbbkbfcgjljmkaaDoorSdT
import Derived.Test.YtbbkbfcgjljmkaaDoorOpa
import Derived.Test.YtbbkbfcgjljmkaaDoorUndonev
namespace Go.Proofs.YtbbkbfcgjljmkaaDoor
open Go Go.RowKit Go.Lib Go.ChangeShapes Go.WideShapes Go.ChangeAt
set_option linter.unusedVariables false

theorem ixLT_inundone : ∀ i ∈ IX, i ∈ ixLT := by decide
theorem laidOutP : laidOutB Tryd.prog = true := by kernel_rfl
theorem undone_core {a : Nat → Addr} (w : World) (hS : Std ixLT a w) (v0 : Value) (A : List A2) (hA : RowA w v0 A) (zA : ∀ m c, v0 = .slice none m c → m = 0 ∧ c = 0) (lA : A.length ≤ 35184372087808) (sA : ∀ q ∈ A, q.1.size ≤ 140737488351232 ∧ q.2.2.2.size ≤ 140737488351232) (v1 : Value) (B : List A2) (hB : RowA w v1 B) (zB : ∀ m c, v1 = .slice none m c → m = 0 ∧ c = 0) (lB : B.length ≤ 35184372087808) (sB : ∀ q ∈ B, q.1.size ≤ 140737488351232 ∧ q.2.2.2.size ≤ 140737488351232) (v2 : Value) (C : List A2) (hC : RowA w v2 C) (zC : ∀ m c, v2 = .slice none m c → m = 0 ∧ c = 0) (lC : C.length ≤ 35184372087808) (sC : ∀ q ∈ C, q.1.size ≤ 140737488351232 ∧ q.2.2.2.size ≤ 140737488351232) :
    Calls Tryd.prog 6 #[v0, v1, v2] w fun e w' => e = .returned (.bool true) ∧ Below w.heap.size w w' :=
  undone_any v0 v1 v2 A B C w ixLT_inundone hS hA hB hC (fun q hq => by have := sA q hq; unfold big; omega) (fun q hq => by have := sB q hq; unfold big; omega) (fun q hq => by have := sC q hq; unfold big; omega) (by omega) (by omega) (by omega)

set_option maxRecDepth 100000 in
theorem attrsUndone_contract (H : Type) (enc : TypeId × Value → H) (W : World) (base : Nat) (args : Array Value) (ds gs : List (DataW H)) (before : List MemPlace)
    (hval : ∀ (j : Nat) t v, Tryd.f6.params[j]? = some t → args[j]? = some v → Value.okWide Tryd.prog W .any base t v)
    (hW : DataW.Whole enc Tryd.prog Tryd.f6.params.toList Rows.attrsUndoneSpec.vars false W args.toList ds gs before)
    (hsz : (DataW.weightsEach Tryd.prog (Tryd.f6.params.toList ++ Rows.attrsUndoneSpec.plain.varTypes Tryd.prog) (ds ++ gs)).all (· ≤ reachBytes) = true) (hL : laidMetH Tryd.prog laidLT W) :
    Calls Tryd.prog 6 args W fun e W' => ∃ v, e = .returned v ∧ Rows.attrsUndoneSpec.post enc Tryd.prog Tryd.f6 false true false false W args v W' := by
  have hW' := hW
  obtain ⟨p, q, hA0, hV, rfl, _, _⟩ := hW
  have hA : DataW.TrodAll enc Tryd.prog W 0 (fun _ => true) true Tryd.f6.params.toList args.toList ds p := hA0
  rw [Tryd.params6] at hA hval hsz
  obtain ⟨v0, vs0, d0, ds0, p0, q0, hargs, rfl, rfl, h0, r0⟩ := trodAll_cons hA
  obtain ⟨v1, vs1, d1, ds1, p1, q1, rfl, rfl, rfl, h1, r1⟩ := trodAll_cons r0
  obtain ⟨v2, vs2, d2, ds2, p2, q2, rfl, rfl, rfl, h2, r2⟩ := trodAll_cons r1
  obtain ⟨rfl, rfl, rfl⟩ := trodAll_nil r2
  obtain rfl : args = #[v0, v1, v2] := by cases args; simp_all
  obtain ⟨rfl, rfl⟩ := trodVars_none hV
  obtain ⟨z0, hrow0, hz0, hlt0, hu0, hs0, hbl0, hbs0⟩ := open_rowA (hval 0 22 v0 rfl rfl) h0 hsz (j := 0) rfl rfl
  obtain ⟨z1, hrow1, hz1, hlt1, hu1, hs1, hbl1, hbs1⟩ := open_rowA (hval 1 22 v1 rfl rfl) h1 hsz (j := 1) rfl rfl
  obtain ⟨z2, hrow2, hz2, hlt2, hu2, hs2, hbl2, hbs2⟩ := open_rowA (hval 2 22 v2 rfl rfl) h2 hsz (j := 2) rfl rfl
  obtain ⟨ad, hS⟩ := std_of_laidT hL
  refine (undone_core W hS v0 z0 hrow0 hz0 hu0 hs0 v1 z1 hrow1 hz1 hu1 hs1 v2 z2 hrow2 hz2 hu2 hs2).mono fun e W' ⟨he, hb⟩ => ?_
  subst he
  exact ⟨_, rfl, _, _, _, _, _, _, hW', trodAll_mk1 (shut_bool Tryd.underlying4 _), (trodAll_cons_mk (hb.trod laidOutP (by kernel_rfl) (of_decide_eq_true (by kernel_rfl)) h0 hlt0) (trodAll_cons_mk (hb.trod laidOutP (by kernel_rfl) (of_decide_eq_true (by kernel_rfl)) h1 hlt1) (trodAll_cons_mk (hb.trod laidOutP (by kernel_rfl) (of_decide_eq_true (by kernel_rfl)) h2 hlt2) trodAll_mk0))), rfl, hb.frame _, fun h => by cases h⟩

theorem attrsUndone_reads (os : Os) {H : Type} (enc : TypeId × Value → H) : ∃ x, DataW.whole enc Tryd.prog ((World.laidAll Tryd.prog os laidLT).forCall (fun _ _ => 0) ⟨#[], #[.slice none 0 0, .slice none 0 0, .slice none 0 0], []⟩).memory Tryd.f6.params.toList Rows.attrsUndoneSpec.vars false #[(.slice none 0 0 : Value), .slice none 0 0, .slice none 0 0].toList 8 = some x ∧ x.1 = [.nil, .nil, .nil] ∧ x.2.1 = [] :=
  ⟨([.nil, .nil, .nil], [], []), by kernel_rfl, rfl, rfl⟩

set_option maxRecDepth 100000 in
theorem attrsUndone_lifted (os : Os) (started : os.Started) (H : Type) (enc : TypeId × Value → H) (F : Stop.Interp) :
    ReturnsInHanded {} Tryd.checked os 6 .any ((OpenSpec.ofChange Rows.attrsUndoneSpec).preRow enc Tryd.prog Tryd.f6 Rows.attrsUndoneRow.domain false laidLT) (((OpenSpec.ofChange Rows.attrsUndoneSpec).at F).post enc Tryd.prog Tryd.f6 false true false false) := by
  obtain ⟨⟨xd, xg, xp⟩, hx, e1, e2⟩ := attrsUndone_reads os enc
  simp only at e1 e2
  subst e1; subst e2
  refine returnsInHanded_of_row (C := Tryd.checked) (s := (OpenSpec.ofChange Rows.attrsUndoneSpec)) ownT started (by kernel_rfl) Tryd.func6
    ⟨World.laidAll Tryd.prog os laidLT, fun _ _ => 0, ⟨#[], #[.slice none 0 0, .slice none 0 0, .slice none 0 0], []⟩, World.laidAll_os _ _ _, World.shaped_of_ZipB (by kernel_rfl) (by kernel_rfl), rfl, (Input.okWide_of_okWideB (by kernel_rfl)).2,
      OpenSpec.preRow_of_cond 8 hx (by kernel_rfl) (fun k hk => by cases hk) (by kernel_rfl) (wit_metT os _), by
        simp only [Assume.holds]
        exact ⟨by simp, by simp, fun _ => Modest.zero, by simp, by simp⟩⟩ ?_
  intro W base args ds gs before hval hW _ hcond hsz hL _ _
  exact attrsUndone_contract H enc W base args ds gs before hval hW hsz hL

theorem attrsUndone_said : Rows.AttrsUndoneSaid :=
  OpenClaim.holds_of_cond 6 Tryd.f6 rfl rfl rfl rfl rfl rfl rfl ⟨rfl, rfl, rfl, rfl, rfl⟩ rfl rfl rfl rfl rfl (by kernel_rfl) Tryd.func6 (by kernel_rfl)
    (of_decide_eq_true (by kernel_rfl)) (by unfold Func.isWrapper; first | (rw [if_pos (by decide +kernel)]; kernel_rfl) | (rw [if_neg (by decide +kernel)]; exact ⟨rfl, rfl⟩))
    (fun os started H enc _ F => by rw [OpenClaim.pre_eq_preRow]; exact attrsUndone_lifted os started H enc F)

theorem attrsUndone_plain (f : FuncId) (fn : Func) (hf : Tryd.pinned.checked.prog.funcNamed Rows.attrsUndoneRow.func = some f) (hfn : Tryd.pinned.checked.prog.funcs[f]? = some fn) :
    true = Tryd.pinned.checked.prog.looks [] ∧ ∀ (j : Nat) t, fn.params[j]? = some t → Tryd.pinned.checked.prog.wantsStandIn t = false := by
  obtain rfl : f = 6 := Option.some.inj ((show Tryd.prog.funcNamed Rows.attrsUndoneRow.func = some 6 by kernel_rfl).symm.trans hf) |>.symm
  obtain rfl : fn = Tryd.f6 := (Option.some.inj (Tryd.func6.symm.trans hfn)).symm
  refine ⟨by kernel_rfl, fun j t ht => ?_⟩
  rw [Tryd.params6] at ht
  have hm : t ∈ ([22] : List Nat) := by have := Array.mem_of_getElem? ht; simp at this; simp; omega
  have hall : (([22] : List Nat).all fun u => !Tryd.prog.wantsStandIn u) = true := by kernel_rfl
  exact (show Tryd.prog.wantsStandIn t = false by simpa using List.all_eq_true.1 hall t hm)

theorem attrsUndone_card : Rows.AttrsUndoneCardSaid :=
  Claim7.holds_tied_plain_at .later [] _ _ _ _ attrsUndone_said (fun _ h => by cases h) (by kernel_rfl) (fun _ h => by cases h) attrsUndone_row_tie rfl ⟨rfl, rfl⟩ (by kernel_rfl) rfl attrsUndone_plain (by kernel_rfl)
end Go.Proofs.YtbbkbfcgjljmkaaDoor
