/- Of all lists (within the bound) vellumlaw03.AttrsOwns answers true and leaves them as they are: its card. -/
import Derived.Test.YtigmhbgdnmkooaaDoorSdW
import Derived.Test.YtigmhbgdnmkooaaDoorOpa
import Derived.Test.YtigmhbgdnmkooaaDoorMgc
namespace Go.Proofs.YtigmhbgdnmkooaaDoor
open Go Go.RowKit Go.Lib Go.ChangeShapes Go.WideShapes Go.ChangeAt
set_option linter.unusedVariables false

theorem ixLW_in : ∀ i ∈ IX, i ∈ ixLW := by decide
theorem laidOutP : laidOutB Tryd.prog = true := by kernel_rfl
theorem owns_core {a : Nat → Addr} (w : World) (hS : Std ixLW a w) (v0 : Value) (A : List A2) (hA : RowA w v0 A) (zA : ∀ m c, v0 = .slice none m c → m = 0 ∧ c = 0) (lA : A.length ≤ 1048576) (sA : ∀ q ∈ A, q.1.size ≤ 1048576 ∧ q.2.2.2.size ≤ 1048576)
    (v1 : Value) (B : List A2) (hB : RowA w v1 B) (zB : ∀ m c, v1 = .slice none m c → m = 0 ∧ c = 0) (lB : B.length ≤ 1048576) (sB : ∀ q ∈ B, q.1.size ≤ 1048576 ∧ q.2.2.2.size ≤ 1048576) (b : Bool) :
    Calls Tryd.prog 5 #[v0, v1, .bool b] w fun e w' => e = .returned (.bool true) ∧ Below w.heap.size w w' :=
  owns_any v0 v1 A B b w ixLW_in hS hA hB zA zB sA sB lA lB

set_option maxRecDepth 100000 in
theorem attrsOwns_contract (H : Type) (enc : TypeId × Value → H) (W : World) (base : Nat) (args : Array Value) (ds gs : List (DataW H)) (before : List MemPlace)
    (hval : ∀ (j : Nat) t v, Tryd.f5.params[j]? = some t → args[j]? = some v → Value.okWide Tryd.prog W .any base t v)
    (hW : DataW.Whole enc Tryd.prog Tryd.f5.params.toList Rows.attrsOwnsSpec.vars false W args.toList ds gs before)
    (hcond : Rows.uptoSmall H (ds ++ gs) = true)
    (hsz : (DataW.weightsEach Tryd.prog (Tryd.f5.params.toList ++ Rows.attrsOwnsSpec.plain.varTypes Tryd.prog) (ds ++ gs)).all (· ≤ reachBytes) = true) (hL : laidMetH Tryd.prog laidLW W) :
    Calls Tryd.prog 5 args W fun e W' => ∃ v, e = .returned v ∧ Rows.attrsOwnsSpec.post enc Tryd.prog Tryd.f5 false true false false W args v W' := by
  have hW' := hW
  obtain ⟨p, q, hA0, hV, rfl, _, _⟩ := hW
  have hA : DataW.TrodAll enc Tryd.prog W 0 (fun _ => true) true Tryd.f5.params.toList args.toList ds p := hA0
  rw [Tryd.params5] at hA hval hsz
  obtain ⟨v0, vs0, d0, ds0, p0, q0, hargs, rfl, rfl, h0, r0⟩ := trodAll_cons hA
  obtain ⟨v1, vs1, d1, ds1, p1, q1, rfl, rfl, rfl, h1, r1⟩ := trodAll_cons r0
  obtain ⟨v2, vs2, d2, ds2, p2, q2, rfl, rfl, rfl, h2, r2⟩ := trodAll_cons r1
  obtain ⟨rfl, rfl, rfl⟩ := trodAll_nil r2
  obtain rfl : args = #[v0, v1, v2] := by cases args; simp_all
  obtain ⟨rfl, rfl⟩ := trodVars_none hV
  obtain ⟨z0, hrow0, hz0, hlt0, hu0, hs0, hbl0, hbs0⟩ := open_rowA (hval 0 22 v0 rfl rfl) h0 hsz (j := 0) rfl rfl
  have hb0 := of_decide_eq_true hcond
  simp only [Rows.uptoBulkAll, List.append_nil] at hb0
  have hu0 : z0.length ≤ 1048576 := by omega
  have hs0 : ∀ q ∈ z0, q.1.size ≤ 1048576 ∧ q.2.2.2.size ≤ 1048576 := fun q hq => by have := hbs0 q hq; omega
  obtain ⟨z1, hrow1, hz1, hlt1, hu1, hs1, hbl1, hbs1⟩ := open_rowA (hval 1 22 v1 rfl rfl) h1 hsz (j := 1) rfl rfl
  have hb1 := of_decide_eq_true hcond
  simp only [Rows.uptoBulkAll, List.append_nil] at hb1
  have hu1 : z1.length ≤ 1048576 := by omega
  have hs1 : ∀ q ∈ z1, q.1.size ≤ 1048576 ∧ q.2.2.2.size ≤ 1048576 := fun q hq => by have := hbs1 q hq; omega
  obtain ⟨x2, rfl, rfl, rfl⟩ := open_bool Tryd.underlying4 (hval 2 4 v2 rfl rfl) h2
  obtain ⟨ad, hS⟩ := std_of_laidW hL
  refine (owns_core W hS v0 z0 hrow0 hz0 hu0 hs0 v1 z1 hrow1 hz1 hu1 hs1 x2).mono fun e W' ⟨he, hb⟩ => ?_
  subst he
  exact ⟨_, rfl, _, _, _, _, _, _, hW', trodAll_mk1 (shut_bool Tryd.underlying4 _), (trodAll_cons_mk (hb.trod laidOutP (by kernel_rfl) (of_decide_eq_true (by kernel_rfl)) h0 hlt0) (trodAll_cons_mk (hb.trod laidOutP (by kernel_rfl) (of_decide_eq_true (by kernel_rfl)) h1 hlt1) (trodAll_cons_mk (shut_bool Tryd.underlying4 _) trodAll_mk0))), rfl, hb.frame _, fun h => by cases h⟩

theorem attrsOwns_reads (os : Os) {H : Type} (enc : TypeId × Value → H) : ∃ x, DataW.whole enc Tryd.prog ((World.laidAll Tryd.prog os laidLW).forCall (fun _ _ => 0) ⟨#[], #[.slice none 0 0, .slice none 0 0, .bool false], []⟩).memory Tryd.f5.params.toList Rows.attrsOwnsSpec.vars false #[(.slice none 0 0 : Value), .slice none 0 0, .bool false].toList 8 = some x ∧ x.1 = [.nil, .nil, .lit (.bool false)] ∧ x.2.1 = [] :=
  ⟨([.nil, .nil, .lit (.bool false)], [], []), by kernel_rfl, rfl, rfl⟩

set_option maxRecDepth 100000 in
theorem attrsOwns_lifted (os : Os) (started : os.Started) (H : Type) (enc : TypeId × Value → H) (F : Stop.Interp) :
    ReturnsInHanded {} Tryd.checked os 5 .any ((Rows.OpenSpec.upto Rows.attrsOwnsSpec).preRow enc Tryd.prog Tryd.f5 Rows.attrsOwnsUptoRow.domain false laidLW) (((Rows.OpenSpec.upto Rows.attrsOwnsSpec).at F).post enc Tryd.prog Tryd.f5 false true false false) := by
  obtain ⟨⟨xd, xg, xp⟩, hx, e1, e2⟩ := attrsOwns_reads os enc
  simp only at e1 e2
  subst e1; subst e2
  refine returnsInHanded_of_row (C := Tryd.checked) (s := (Rows.OpenSpec.upto Rows.attrsOwnsSpec)) ownW started (by kernel_rfl) Tryd.func5
    ⟨World.laidAll Tryd.prog os laidLW, fun _ _ => 0, ⟨#[], #[.slice none 0 0, .slice none 0 0, .bool false], []⟩, World.laidAll_os _ _ _, World.shaped_of_ZipB (by kernel_rfl) (by kernel_rfl), rfl, (Input.okWide_of_okWideB (by kernel_rfl)).2,
      OpenSpec.preRow_of_cond 8 hx (by kernel_rfl) (fun k hk => by cases hk; kernel_rfl) (by kernel_rfl) (wit_metW os _), by
        simp only [Assume.holds]
        exact ⟨by simp, by simp, fun _ => Modest.zero, by simp, by simp⟩⟩ ?_
  intro W base args ds gs before hval hW _ hcond hsz hL _ _
  exact attrsOwns_contract H enc W base args ds gs before hval hW (hcond _ rfl) hsz hL

theorem attrsOwns_said : Rows.AttrsOwnsUptoSaid :=
  OpenClaim.holds_of_cond 5 Tryd.f5 rfl rfl rfl rfl rfl rfl rfl ⟨rfl, rfl, rfl, rfl, rfl⟩ rfl rfl rfl rfl rfl (by kernel_rfl) Tryd.func5 (by kernel_rfl)
    (of_decide_eq_true (by kernel_rfl)) (by unfold Func.isWrapper; first | (rw [if_pos (by decide +kernel)]; kernel_rfl) | (rw [if_neg (by decide +kernel)]; exact ⟨rfl, rfl⟩))
    (fun os started H enc _ F => by rw [OpenClaim.pre_eq_preRow]; exact attrsOwns_lifted os started H enc F)

theorem attrsOwns_plain (f : FuncId) (fn : Func) (hf : Tryd.pinned.checked.prog.funcNamed Rows.attrsOwnsUptoRow.func = some f) (hfn : Tryd.pinned.checked.prog.funcs[f]? = some fn) :
    true = Tryd.pinned.checked.prog.looks [] ∧ ∀ (j : Nat) t, fn.params[j]? = some t → Tryd.pinned.checked.prog.wantsStandIn t = false := by
  obtain rfl : f = 5 := Option.some.inj ((show Tryd.prog.funcNamed Rows.attrsOwnsUptoRow.func = some 5 by kernel_rfl).symm.trans hf) |>.symm
  obtain rfl : fn = Tryd.f5 := (Option.some.inj (Tryd.func5.symm.trans hfn)).symm
  refine ⟨by kernel_rfl, fun j t ht => ?_⟩
  rw [Tryd.params5] at ht
  have hm : t ∈ ([22, 4] : List Nat) := by have := Array.mem_of_getElem? ht; simp at this; simp; omega
  have hall : (([22, 4] : List Nat).all fun u => !Tryd.prog.wantsStandIn u) = true := by kernel_rfl
  exact (show Tryd.prog.wantsStandIn t = false by simpa using List.all_eq_true.1 hall t hm)

theorem attrsOwns_card : Rows.AttrsOwnsUptoCardSaid :=
  Claim7.holds_tied_plain_at .later [] _ _ _ _ attrsOwns_said (fun _ h => by cases h) (by kernel_rfl) (fun _ h => by cases h) attrsOwnsUpto_row_tie rfl ⟨rfl, rfl⟩ (by kernel_rfl) rfl attrsOwns_plain (by kernel_rfl)
end Go.Proofs.YtigmhbgdnmkooaaDoor
