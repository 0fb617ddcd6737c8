/- Of all lists, keys and numbers (within the bound) vellumlaw03.AttrsAsks answers true and leaves them as they are: its card. -/
import Derived.Test.YtigmhbgdnmkooaaDoorSdK
import Derived.Test.YtigmhbgdnmkooaaDoorOpa
import Derived.Test.YtigmhbgdnmkooaaDoorMgc
namespace Go.Proofs.YtigmhbgdnmkooaaDoor
open Go Go.RowKit Go.Lib Go.ChangeShapes Go.WideShapes Go.ChangeAt
open Go.ChangeMaps (open_string shut_string)
set_option linter.unusedVariables false

theorem ixLK_in : ∀ i ∈ IX, i ∈ ixLK := by decide
theorem sent_K {a : Nat → Addr} {w : World} (hS : Std ixLK a w) : Sent a w := by
  have e : all19 = ixLK := by decide
  unfold Sent
  rw [e]
  exact hS.er
theorem laidOutP : laidOutB Tryd.prog = true := by kernel_rfl
theorem asks_core {a : Nat → Addr} (w : World) (hS : Std ixLK a w) (v0 : Value) (A : List A2) (hA : RowA w v0 A) (zA : ∀ m c, v0 = .slice none m c → m = 0 ∧ c = 0) (lA : A.length ≤ 1048576) (sA : ∀ q ∈ A, q.1.size ≤ 1048576 ∧ q.2.2.2.size ≤ 1048576)
    (key : ByteArray) (hk : key.size ≤ 1048576) (stop : Int) (hs : -9223372036854775808 ≤ stop ∧ stop ≤ 9223372036854775807) :
    Calls Tryd.prog 3 #[v0, .string key, .int .i64 stop] w fun e w' => e = .returned (.bool true) ∧ Below w.heap.size w w' :=
  asks_any v0 A key stop w ixLK_in hS (sent_K hS) hA sA

set_option maxRecDepth 100000 in
theorem attrsAsks_contract (H : Type) (enc : TypeId × Value → H) (W : World) (base : Nat) (args : Array Value) (ds gs : List (DataW H)) (before : List MemPlace)
    (hval : ∀ (j : Nat) t v, Tryd.f3.params[j]? = some t → args[j]? = some v → Value.okWide Tryd.prog W .any base t v)
    (hW : DataW.Whole enc Tryd.prog Tryd.f3.params.toList Rows.attrsAsksSpec.vars false W args.toList ds gs before)
    (hcond : Rows.uptoSmall H (ds ++ gs) = true)
    (hsz : (DataW.weightsEach Tryd.prog (Tryd.f3.params.toList ++ Rows.attrsAsksSpec.plain.varTypes Tryd.prog) (ds ++ gs)).all (· ≤ reachBytes) = true) (hL : laidMetH Tryd.prog laidLK W) :
    Calls Tryd.prog 3 args W fun e W' => ∃ v, e = .returned v ∧ Rows.attrsAsksSpec.post enc Tryd.prog Tryd.f3 false true false false W args v W' := by
  have hW' := hW
  obtain ⟨p, q, hA0, hV, rfl, _, _⟩ := hW
  have hA : DataW.TrodAll enc Tryd.prog W 0 (fun _ => true) true Tryd.f3.params.toList args.toList ds p := hA0
  rw [Tryd.params3] at hA hval hsz
  obtain ⟨v0, vs0, d0, ds0, p0, q0, hargs, rfl, rfl, h0, r0⟩ := trodAll_cons hA
  obtain ⟨v1, vs1, d1, ds1, p1, q1, rfl, rfl, rfl, h1, r1⟩ := trodAll_cons r0
  obtain ⟨v2, vs2, d2, ds2, p2, q2, rfl, rfl, rfl, h2, r2⟩ := trodAll_cons r1
  obtain ⟨rfl, rfl, rfl⟩ := trodAll_nil r2
  obtain rfl : args = #[v0, v1, v2] := by cases args; simp_all
  obtain ⟨rfl, rfl⟩ := trodVars_none hV
  obtain ⟨z0, hrow0, hz0, hlt0, hu0, hs0, hbl0, hbs0⟩ := open_rowA (hval 0 22 v0 rfl rfl) h0 hsz (j := 0) rfl rfl
  have hb0 := of_decide_eq_true hcond
  simp only [Rows.uptoBulkAll, List.append_nil] at hb0
  have hu0 : z0.length ≤ 1048576 := by omega
  have hs0 : ∀ q ∈ z0, q.1.size ≤ 1048576 ∧ q.2.2.2.size ≤ 1048576 := fun q hq => by have := hbs0 q hq; omega
  obtain ⟨x1, rfl, rfl, rfl, hs1⟩ := open_string Tryd.underlying9 (hval 1 9 v1 rfl rfl) h1
  have hx1 : x1.size ≤ 140737488351232 := by
    have := sized_string hsz (j := 1) (t := 9) rfl rfl
    rw [size_toList] at this; exact this
  have hu1 : x1.size ≤ 1048576 := by
    have := of_decide_eq_true hcond
    simp only [Rows.uptoBulkAll, Rows.uptoBulk, List.append_nil, size_toList] at this
    omega
  obtain ⟨x2, rfl, rfl, rfl, wx2⟩ := open_int Tryd.underlying3 (hval 2 3 v2 rfl rfl) h2
  have hx2 : -9223372036854775808 ≤ x2 ∧ x2 ≤ 9223372036854775807 := by simpa [Lit.wf, IntKind.min, IntKind.max, IntKind.signed, IntKind.bits] using wx2
  obtain ⟨ad, hS⟩ := std_of_laidK hL
  refine (asks_core W hS v0 z0 hrow0 hz0 hu0 hs0 x1 hu1 x2 hx2).mono fun e W' ⟨he, hb⟩ => ?_
  subst he
  exact ⟨_, rfl, _, _, _, _, _, _, hW', trodAll_mk1 (shut_bool Tryd.underlying4 _), (trodAll_cons_mk (hb.trod laidOutP (by kernel_rfl) (of_decide_eq_true (by kernel_rfl)) h0 hlt0) (trodAll_cons_mk (shut_string Tryd.underlying9 hs1) (trodAll_cons_mk (shut_int Tryd.underlying3 wx2) trodAll_mk0))), rfl, hb.frame _, fun h => by cases h⟩

theorem attrsAsks_reads (os : Os) {H : Type} (enc : TypeId × Value → H) : ∃ x, DataW.whole enc Tryd.prog ((World.laidAll Tryd.prog os laidLK).forCall (fun _ _ => 0) ⟨#[], #[.slice none 0 0, .string ByteArray.empty, .int .i64 0], []⟩).memory Tryd.f3.params.toList Rows.attrsAsksSpec.vars false #[(.slice none 0 0 : Value), .string ByteArray.empty, .int .i64 0].toList 8 = some x ∧ x.1 = [.nil, .lit (.string []), .lit (.int .i64 0)] ∧ x.2.1 = [] :=
  ⟨([.nil, .lit (.string []), .lit (.int .i64 0)], [], []), by kernel_rfl, rfl, rfl⟩

set_option maxRecDepth 100000 in
theorem attrsAsks_lifted (os : Os) (started : os.Started) (H : Type) (enc : TypeId × Value → H) (F : Stop.Interp) :
    ReturnsInHanded {} Tryd.checked os 3 .any ((Rows.OpenSpec.upto Rows.attrsAsksSpec).preRow enc Tryd.prog Tryd.f3 Rows.attrsAsksUptoRow.domain false laidLK) (((Rows.OpenSpec.upto Rows.attrsAsksSpec).at F).post enc Tryd.prog Tryd.f3 false true false false) := by
  obtain ⟨⟨xd, xg, xp⟩, hx, e1, e2⟩ := attrsAsks_reads os enc
  simp only at e1 e2
  subst e1; subst e2
  refine returnsInHanded_of_row (C := Tryd.checked) (s := (Rows.OpenSpec.upto Rows.attrsAsksSpec)) ownK started (by kernel_rfl) Tryd.func3
    ⟨World.laidAll Tryd.prog os laidLK, fun _ _ => 0, ⟨#[], #[.slice none 0 0, .string ByteArray.empty, .int .i64 0], []⟩, World.laidAll_os _ _ _, World.shaped_of_ZipB (by kernel_rfl) (by kernel_rfl), rfl, (Input.okWide_of_okWideB (by kernel_rfl)).2,
      OpenSpec.preRow_of_cond 8 hx (by kernel_rfl) (fun k hk => by cases hk; kernel_rfl) (by kernel_rfl) (wit_metK os _), by
        simp only [Assume.holds]
        exact ⟨by simp, by simp, fun _ => Modest.zero, by simp, by simp⟩⟩ ?_
  intro W base args ds gs before hval hW _ hcond hsz hL _ _
  exact attrsAsks_contract H enc W base args ds gs before hval hW (hcond _ rfl) hsz hL

theorem attrsAsks_said : Rows.AttrsAsksUptoSaid :=
  OpenClaim.holds_of_cond 3 Tryd.f3 rfl rfl rfl rfl rfl rfl rfl ⟨rfl, rfl, rfl, rfl, rfl⟩ rfl rfl rfl rfl rfl (by kernel_rfl) Tryd.func3 (by kernel_rfl)
    (of_decide_eq_true (by kernel_rfl)) (by unfold Func.isWrapper; first | (rw [if_pos (by decide +kernel)]; kernel_rfl) | (rw [if_neg (by decide +kernel)]; exact ⟨rfl, rfl⟩))
    (fun os started H enc _ F => by rw [OpenClaim.pre_eq_preRow]; exact attrsAsks_lifted os started H enc F)

theorem attrsAsks_plain (f : FuncId) (fn : Func) (hf : Tryd.pinned.checked.prog.funcNamed Rows.attrsAsksUptoRow.func = some f) (hfn : Tryd.pinned.checked.prog.funcs[f]? = some fn) :
    true = Tryd.pinned.checked.prog.looks [] ∧ ∀ (j : Nat) t, fn.params[j]? = some t → Tryd.pinned.checked.prog.wantsStandIn t = false := by
  obtain rfl : f = 3 := Option.some.inj ((show Tryd.prog.funcNamed Rows.attrsAsksUptoRow.func = some 3 by kernel_rfl).symm.trans hf) |>.symm
  obtain rfl : fn = Tryd.f3 := (Option.some.inj (Tryd.func3.symm.trans hfn)).symm
  refine ⟨by kernel_rfl, fun j t ht => ?_⟩
  rw [Tryd.params3] at ht
  have hm : t ∈ ([22, 9, 3] : List Nat) := by have := Array.mem_of_getElem? ht; simp at this; simp; omega
  have hall : (([22, 9, 3] : List Nat).all fun u => !Tryd.prog.wantsStandIn u) = true := by kernel_rfl
  exact (show Tryd.prog.wantsStandIn t = false by simpa using List.all_eq_true.1 hall t hm)

theorem attrsAsks_card : Rows.AttrsAsksUptoCardSaid :=
  Claim7.holds_tied_plain_at .later [] _ _ _ _ attrsAsks_said (fun _ h => by cases h) (by kernel_rfl) (fun _ h => by cases h) attrsAsksUpto_row_tie rfl ⟨rfl, rfl⟩ (by kernel_rfl) rfl attrsAsks_plain (by kernel_rfl)
end Go.Proofs.YtigmhbgdnmkooaaDoor
