/- Of all texts and numbers of bulk within the bound vellumlaw01.ScalarsTexts answers true and leaves them as they are. -/
import Derived.Test.YtdnelmbihblakaaDoorStd
import Derived.Test.YtdnelmbihblakaaDoorDcw
import Derived.Test.YtdnelmbihblakaaDoorEachw
namespace Go.Proofs.YtdnelmbihblakaaDoor
open Go Go.RowKit Go.Lib Go.ChangeShapes Go.WideShapes Go.ChangeAt
open Go.ChangeMaps (open_string shut_string)
set_option linter.unusedVariables false

set_option maxHeartbeats 1000000 in
set_option maxRecDepth 100000 in
theorem texts_ok (w : World) {ad : Nat → Addr} (hS : Std ad w) (s : ByteArray) (stop : Int) (hs : s.size ≤ 1048576) (hv : brk s.data.toList = s.size) :
    Calls Tryd.prog 3 #[.string s, .int .i64 stop] w fun e w' => e = .returned (.bool true) ∧ Below w.heap.size w w' := by
  have L := lives_any w hS
  obtain ⟨t, hrs, ht, he⟩ := text_cases s.data.toList
  have c1 := fun W (hW : Below w.heap.size w W) => from_below hW (check_ok s W (hS.below hW) (by omega) hv)
  have c2 := fun W (hW : Below w.heap.size w W) => from_below hW (ref_check_ok s W (by omega) hv)
  have c3 := fun W => ref_list s W (by omega)
  have c4 := fun W (hW : Below w.heap.size w W) => list_ok s W (hS.below hW) (by omega) hv
  have c5 := fun W (hW : Below w.heap.size w W) => from_here hW (len_ok s W (hS.below hW) (by omega) hv)
  have hlen := (valid_text s hv).2.2
  obtain ⟨rs, hrs'⟩ : ∃ rs, scs s.data.toList = rs := ⟨_, rfl⟩
  rw [hrs'] at hrs he hlen
  simp only [hrs'] at c3 c4 c5
  have cE := fun W (hW : Below w.heap.size w W) v (hr : Row32 W v (ints rs)) => from_below hW (each_any s rs t he hrs ht hs W (hS.below hW) v hr stop)
  have cS := fun W (hW : Below w.heap.size w W) v u (hr : Row32 W v (ints rs)) (hu : Row32 W u (ints rs)) => from_here hW (same_any v u (ints rs) (ints rs) W hr hu (by rw [ints_length]; omega) (by rw [ints_length]; omega))
  simp only [decide_true] at cS
  clear he ht hrs hv hrs' hS
  go_enter Tryd.func3, Tryd.ntmps3
  go_wp2_with fail
  refine L.mono ?_; rintro e w1 ⟨rfl, b1⟩
  go_wp2_with fail
  refine (c1 _ b1).mono ?_; rintro e w2 ⟨rfl, b2⟩
  go_wp2_with fail
  refine (c2 _ b2).mono ?_; rintro e w3 ⟨rfl, b3⟩
  go_wp2_with fail
  refine (num_nil _).mono ?_; rintro e w3a ⟨rfl, rfl⟩
  go_wp2_with fail
  refine (c3 _).mono ?_; rintro e w4 ⟨v, rfl, hown, ⟨g, cap, rfl⟩, k4⟩
  have b4 := b3.trans (k4.mono b3.size)
  have hr4 : Row32 w4 (.slice (some ⟨g, 0, none⟩) rs.length cap) (ints rs) := owns_row32 hown
  clear hown k4
  go_wp2_with fail
  refine (c4 _ b4).mono ?_; rintro e w5 ⟨u, rfl, hown, k5⟩
  have b5 := b4.trans (k5.mono b4.size)
  have hr5 : Row32 w5 (.slice (some ⟨g, 0, none⟩) rs.length cap) (ints rs) := hr4.below k5
  have hu5 : Row32 w5 u (ints rs) := owns_row32 hown
  clear hown
  go_wp2_with fail
  refine (c5 _ b5).mono ?_; rintro e w6 ⟨rfl, k6, b6⟩
  have hr6 := hr5.below k6
  have hu6 := hu5.below k6
  go_wp2_with fail
  refine (num_nil _).mono ?_; rintro e w6a ⟨rfl, rfl⟩
  go_wp2_with fail
  refine (num_nil _).mono ?_; rintro e w6b ⟨rfl, rfl⟩
  go_wp2_with fail
  refine (cS _ b6 _ _ hu6 hr6).mono ?_; rintro e w7 ⟨rfl, k7, b7⟩
  have hr7 := hr6.below k7
  go_wp2_with fail
  refine (cE _ b7 _ hr7).mono ?_; rintro e w8 ⟨rfl, b8⟩
  go_wp2
  go_ret
  exact ⟨rfl, b8⟩

set_option maxHeartbeats 1000000 in
set_option maxRecDepth 100000 in
theorem texts_no (w : World) {ad : Nat → Addr} (hS : Std ad w) (s : ByteArray) (stop : Int) (hs : s.size ≤ 1048576) (hv : brk s.data.toList ≠ s.size) :
    Calls Tryd.prog 3 #[.string s, .int .i64 stop] w fun e w' => e = .returned (.bool true) ∧ Below w.heap.size w w' := by
  have L := lives_any w hS
  obtain ⟨t, hrs, ht, he⟩ := text_cases s.data.toList
  have c1 := fun W (hW : Below w.heap.size w W) => from_below hW (check_no s W (hS.below hW) (by omega) hv)
  have c2 := fun W (hW : Below w.heap.size w W) => from_below hW (ref_check_no s W (by omega) hv)
  have c3 := fun W => ref_list s W (by omega)
  have c4 := fun W (hW : Below w.heap.size w W) => from_here hW (list_no s W (hS.below hW) (by omega) hv)
  have c5 := fun W (hW : Below w.heap.size w W) => from_here hW (len_no s W (hS.below hW) (by omega) hv)
  have cN := fun W (hW : Below w.heap.size w W) => from_here hW (num_err (hS.below hW).sent 0 (by omega))
  obtain ⟨rs, hrs'⟩ : ∃ rs, scs s.data.toList = rs := ⟨_, rfl⟩
  rw [hrs'] at hrs he
  simp only [hrs'] at c3
  have cE := fun W (hW : Below w.heap.size w W) v (hr : Row32 W v (ints rs)) => from_below hW (each_any s rs t he hrs ht hs W (hS.below hW) v hr stop)
  obtain ⟨n, hn⟩ : ∃ n, brk s.data.toList = n := ⟨_, rfl⟩
  rw [hn] at c1 c2
  clear he ht hrs hv hrs' hS hn
  go_enter Tryd.func3, Tryd.ntmps3
  go_wp2_with fail
  refine L.mono ?_; rintro e w1 ⟨rfl, b1⟩
  go_wp2_with fail
  refine (c1 _ b1).mono ?_; rintro e w2 ⟨rfl, b2⟩
  go_wp2_with fail
  refine (c2 _ b2).mono ?_; rintro e w3 ⟨rfl, b3⟩
  go_wp2_with fail
  refine (cN _ b3).mono ?_; rintro e w3a ⟨rfl, _, b3a⟩
  go_wp2_with fail
  refine (c3 _).mono ?_; rintro e w4 ⟨v, rfl, hown, ⟨g, cap, rfl⟩, k4⟩
  have b4 := b3a.trans (k4.mono b3a.size)
  have hr4 : Row32 w4 (.slice (some ⟨g, 0, none⟩) rs.length cap) (ints rs) := owns_row32 hown
  clear hown k4
  go_wp2_with fail
  refine (c4 _ b4).mono ?_; rintro e w5 ⟨rfl, k5, b5⟩
  have hr5 := hr4.below k5
  go_wp2_with fail
  refine (c5 _ b5).mono ?_; rintro e w6 ⟨rfl, k6, b6⟩
  have hr6 := hr5.below k6
  go_wp2_with fail
  refine (cN _ b6).mono ?_; rintro e w6a ⟨rfl, k6a, b6a⟩
  have hr6a := hr6.below k6a
  go_wp2_with fail
  refine (cN _ b6a).mono ?_; rintro e w6b ⟨rfl, k6b, b6b⟩
  have hr6b := hr6a.below k6b
  go_wp2_with fail
  refine (cE _ b6b _ hr6b).mono ?_; rintro e w8 ⟨rfl, b8⟩
  go_wp2
  go_ret
  exact ⟨rfl, b8⟩

theorem texts_core (w : World) {ad : Nat → Addr} (hS : Std ad w) (s : ByteArray) (hs : s.size ≤ 1048576) (stop : Int) (_ : -9223372036854775808 ≤ stop ∧ stop ≤ 9223372036854775807) :
    Calls Tryd.prog 3 #[.string s, .int .i64 stop] w fun e w' => e = .returned (.bool true) ∧ Below w.heap.size w w' := by
  by_cases hv : brk s.data.toList = s.size
  · exact texts_ok w hS s stop hs hv
  · exact texts_no w hS s stop hs hv

set_option maxRecDepth 100000 in
theorem scalarsTexts_contract (H : Type) (enc : TypeId × Value → H) (W : World) (base : Nat) (args : Array Value) (ds gs : List (DataW H)) (before : List MemPlace)
    (hval : ∀ (j : Nat) t v, Tryd.f3.params[j]? = some t → args[j]? = some v → Value.okWide Tryd.prog W .any base t v)
    (hW : DataW.Whole enc Tryd.prog Tryd.f3.params.toList Rows.scalarsTextsSpec.vars false W args.toList ds gs before)
    (hcond : Rows.uptoSmall H (ds ++ gs) = true)
    (hsz : (DataW.weightsEach Tryd.prog (Tryd.f3.params.toList ++ Rows.scalarsTextsSpec.plain.varTypes Tryd.prog) (ds ++ gs)).all (· ≤ reachBytes) = true) (hL : laidMetH Tryd.prog laidL W) :
    Calls Tryd.prog 3 args W fun e W' => ∃ v, e = .returned v ∧ Rows.scalarsTextsSpec.post enc Tryd.prog Tryd.f3 false true false false W args v W' := by
  have hW' := hW
  obtain ⟨p, q, hA0, hV, rfl, _, _⟩ := hW
  have hA : DataW.TrodAll enc Tryd.prog W 0 (fun _ => true) true Tryd.f3.params.toList args.toList ds p := hA0
  rw [Tryd.params3] at hA hval hsz
  obtain ⟨v0, vs0, d0, ds0, p0, q0, hargs, rfl, rfl, h0, r0⟩ := trodAll_cons hA
  obtain ⟨v1, vs1, d1, ds1, p1, q1, rfl, rfl, rfl, h1, r1⟩ := trodAll_cons r0
  obtain ⟨rfl, rfl, rfl⟩ := trodAll_nil r1
  obtain rfl : args = #[v0, v1] := by cases args; simp_all
  obtain ⟨rfl, rfl⟩ := trodVars_none hV
  obtain ⟨x0, rfl, rfl, rfl, hs0⟩ := open_string Tryd.underlying9 (hval 0 9 v0 rfl rfl) h0
  have hx0 : x0.size ≤ 140737488351232 := by
    have := sized_string hsz (j := 0) (t := 9) rfl rfl
    rw [size_toList] at this; exact this
  have hu0 : x0.size ≤ 1048576 := by
    have := of_decide_eq_true hcond
    simp only [Rows.uptoBulkAll, Rows.uptoBulk, List.append_nil, size_toList] at this
    omega
  obtain ⟨x1, rfl, rfl, rfl, wx1⟩ := open_int Tryd.underlying3 (hval 1 3 v1 rfl rfl) h1
  have hx1 : -9223372036854775808 ≤ x1 ∧ x1 ≤ 9223372036854775807 := by simpa [Lit.wf, IntKind.min, IntKind.max, IntKind.signed, IntKind.bits] using wx1
  obtain ⟨ad, hS⟩ := std_of_laid hL
  refine (texts_core W hS x0 hu0 x1 hx1).mono fun e W' ⟨he, hb⟩ => ?_
  subst he
  exact ⟨_, rfl, _, _, _, _, _, _, hW', trodAll_mk1 (shut_bool Tryd.underlying4 _), (trodAll_cons_mk (shut_string Tryd.underlying9 hs0) (trodAll_cons_mk (shut_int Tryd.underlying3 wx1) trodAll_mk0)), rfl, hb.frame _, fun h => by cases h⟩

theorem scalarsTexts_reads (os : Os) {H : Type} (enc : TypeId × Value → H) : ∃ x, DataW.whole enc Tryd.prog ((World.laidAll Tryd.prog os laidL).forCall (fun _ _ => 0) ⟨#[], #[.string ByteArray.empty, .int .i64 0], []⟩).memory Tryd.f3.params.toList Rows.scalarsTextsSpec.vars false #[(.string ByteArray.empty : Value), .int .i64 0].toList 8 = some x ∧ x.1 = [.lit (.string []), .lit (.int .i64 0)] ∧ x.2.1 = [] :=
  ⟨([.lit (.string []), .lit (.int .i64 0)], [], []), by kernel_rfl, rfl, rfl⟩

set_option maxRecDepth 100000 in
theorem scalarsTexts_lifted (os : Os) (started : os.Started) (H : Type) (enc : TypeId × Value → H) (F : Stop.Interp) :
    ReturnsInHanded {} Tryd.checked os 3 .any ((Rows.OpenSpec.upto Rows.scalarsTextsSpec).preRow enc Tryd.prog Tryd.f3 Rows.scalarsTextsUptoRow.domain false laidL) (((Rows.OpenSpec.upto Rows.scalarsTextsSpec).at F).post enc Tryd.prog Tryd.f3 false true false false) := by
  obtain ⟨⟨xd, xg, xp⟩, hx, e1, e2⟩ := scalarsTexts_reads os enc
  simp only at e1 e2
  subst e1; subst e2
  refine returnsInHanded_of_row (C := Tryd.checked) (s := (Rows.OpenSpec.upto Rows.scalarsTextsSpec)) own started (by kernel_rfl) Tryd.func3
    ⟨World.laidAll Tryd.prog os laidL, fun _ _ => 0, ⟨#[], #[.string ByteArray.empty, .int .i64 0], []⟩, World.laidAll_os _ _ _, World.shaped_of_ZipB (by kernel_rfl) (by kernel_rfl), rfl, (Input.okWide_of_okWideB (by kernel_rfl)).2,
      OpenSpec.preRow_of_cond 8 hx (by kernel_rfl) (fun k hk => by cases hk; kernel_rfl) (by kernel_rfl) (wit_met os _), by
        simp only [Assume.holds]
        exact ⟨by simp, by simp, fun _ => Modest.zero, by simp, by simp⟩⟩ ?_
  intro W base args ds gs before hval hW _ hcond hsz hL _ _
  exact scalarsTexts_contract H enc W base args ds gs before hval hW (hcond _ rfl) hsz hL

theorem scalarsTexts_said : Rows.ScalarsTextsUptoSaid :=
  OpenClaim.holds_of_cond 3 Tryd.f3 rfl rfl rfl rfl rfl rfl rfl ⟨rfl, rfl, rfl, rfl, rfl⟩ rfl rfl rfl rfl rfl (by kernel_rfl) Tryd.func3 (by kernel_rfl)
    (of_decide_eq_true (by kernel_rfl)) (by unfold Func.isWrapper; first | (rw [if_pos (by decide +kernel)]; kernel_rfl) | (rw [if_neg (by decide +kernel)]; exact ⟨rfl, rfl⟩))
    (fun os started H enc _ F => by rw [OpenClaim.pre_eq_preRow]; exact scalarsTexts_lifted os started H enc F)

theorem scalarsTexts_plain (f : FuncId) (fn : Func) (hf : Tryd.pinned.checked.prog.funcNamed Rows.scalarsTextsUptoRow.func = some f) (hfn : Tryd.pinned.checked.prog.funcs[f]? = some fn) :
    true = Tryd.pinned.checked.prog.looks [] ∧ ∀ (j : Nat) t, fn.params[j]? = some t → Tryd.pinned.checked.prog.wantsStandIn t = false := by
  obtain rfl : f = 3 := Option.some.inj ((show Tryd.prog.funcNamed Rows.scalarsTextsUptoRow.func = some 3 by kernel_rfl).symm.trans hf) |>.symm
  obtain rfl : fn = Tryd.f3 := (Option.some.inj (Tryd.func3.symm.trans hfn)).symm
  refine ⟨by kernel_rfl, fun j t ht => ?_⟩
  rw [Tryd.params3] at ht
  have hm : t ∈ ([9, 3] : List Nat) := by have := Array.mem_of_getElem? ht; simp at this; simp; omega
  have hall : (([9, 3] : List Nat).all fun u => !Tryd.prog.wantsStandIn u) = true := by kernel_rfl
  exact (show Tryd.prog.wantsStandIn t = false by simpa using List.all_eq_true.1 hall t hm)

theorem scalarsTexts_card : Rows.ScalarsTextsUptoCardSaid :=
  Claim7.holds_tied_plain_at .later [] _ _ _ _ scalarsTexts_said (fun _ h => by cases h) (by kernel_rfl) (fun _ h => by cases h) scalarsTextsUpto_row_tie rfl ⟨rfl, rfl⟩ (by kernel_rfl) rfl scalarsTexts_plain (by kernel_rfl)

end Go.Proofs.YtdnelmbihblakaaDoor
