/- Of all texts and numbers vellumlaw01.ScalarsJoined answers true and leaves them as they are. -/
import Derived.Test.YtdnelmbihblakaaDoorStd
import Derived.Test.YtdnelmbihblakaaDoorLives
namespace Go.Proofs.YtdnelmbihblakaaDoor
open Go Go.RowKit Go.Lib Go.ChangeShapes Go.WideShapes Go.ChangeAt
open Go.ChangeMaps (open_string shut_string)
set_option linter.unusedVariables false

theorem extract_zero (s : ByteArray) (n : Nat) : (s.extract 0 n).data.toList = s.data.toList.take n := by
  rw [extract_data, List.drop_zero, Nat.sub_zero]

/-- Check, said in numbers. -/
theorem check_n {a : Nat → Addr} (s : ByteArray) (n : Nat) (w W : World) (hw : Std a w) (hW : Below w.heap.size w W) (hs : s.size ≤ 281474976710656) (h : brk s.data.toList = n) :
    Calls Tryd.prog 10 #[.string s] W fun e w' => e = .returned (.tuple #[.int .i64 n, if n = s.size then .nilIface else errV a 0]) ∧ Below w.heap.size w w' := by
  refine (check_any s W (hw.below hW) hs).mono fun e w' ⟨⟨v, he, h1, h2⟩, hb⟩ => ⟨?_, hW.trans (hb.mono hW.size)⟩
  rw [he, h]
  rw [h] at h1 h2
  by_cases hn : n = s.size
  · rw [if_pos hn, h1 hn]
  · rw [if_neg hn, h2 hn]

theorem k_of (more : Int) (n z : Nat) (h : n < z) (hz : z ≤ 281474976710656) : ∃ k : Nat, wrap64 ((n : Int) + 1 + wrap64 ((IntKind.u64.wrap more).tmod ((z : Int) - n))) = k ∧ n < k ∧ k ≤ z := by
  obtain ⟨U, hU⟩ : ∃ U, IntKind.u64.wrap more = U := ⟨_, rfl⟩
  have hU0 : 0 ≤ U := by
    rw [← hU, IntKind.wrap_u64]; omega
  rw [hU, Int.tmod_eq_emod_of_nonneg hU0]
  have h1 := Int.emod_nonneg U (show ((z : Int) - n) ≠ 0 by omega)
  have h2 := Int.emod_lt_of_pos U (show 0 < ((z : Int) - n) by omega)
  obtain ⟨R, hR⟩ : ∃ R, U % ((z : Int) - n) = R := ⟨_, rfl⟩
  rw [hR] at h1 h2 ⊢
  refine ⟨(n + 1 + R).toNat, ?_, by omega, by omega⟩
  unfold wrap64
  omega

set_option maxHeartbeats 1000000 in
theorem joined_broken (w : World) {ad : Nat → Addr} (hS : Std ad w) (a b : ByteArray) (more : Int) (ha : a.size ≤ 140737488351232) (hv : brk a.data.toList ≠ a.size) :
    Calls Tryd.prog 8 #[.string a, .string b, .int .i64 more] w fun e w' => e = .returned (.bool true) ∧ Below w.heap.size w w' := by
  have L := lives_any w hS
  obtain ⟨n, hn⟩ : ∃ n, brk a.data.toList = n := ⟨_, rfl⟩
  have hle := brk_le a.data.toList
  rw [size_toList, hn] at hle
  rw [hn] at hv
  obtain ⟨k, hk, hk1, hk2⟩ := k_of more n a.size (by omega) (by omega)
  have c1 := fun W hW => check_n a n w W hS hW (by omega) hn
  have c2 := fun W hW => check_n (a.extract 0 n) n w W hS hW (by rw [ByteArray.size_extract]; omega) (by rw [extract_zero, ← hn, brk_take_brk])
  rw [show (a.extract 0 n).size = n from by rw [ByteArray.size_extract]; omega] at c2
  have c3 := fun W hW => check_n (a.extract 0 k) n w W hS hW (by rw [ByteArray.size_extract]; omega) (by rw [extract_zero, ← hn]; exact brk_take_more _ _ (by omega))
  rw [show (a.extract 0 k).size = k from by rw [ByteArray.size_extract]; omega] at c3
  have hnk : n ≠ k := by omega
  simp only [hv, hnk, if_false, if_true] at c1 c2 c3
  have c4 : ∀ W, Below w.heap.size w W → Calls Tryd.prog 12 #[errV ad 0] W fun e w' => e = .returned (.int .i64 1) ∧ Below w.heap.size w w' := fun W h => (num_err (hS.below h).sent 0 (by omega)).mono fun e w' ⟨h1, h2⟩ => ⟨h1, h.trans (h2.mono h.size)⟩
  have hlt : (n : Int) < a.size := by omega
  have f1 : decide ((n : Int) < 0) = false := by simp
  have f2 : decide (a.size < n) = false := by simp; omega
  have f3 : ((n : Int) == (a.size : Int)) = false := by simp; omega
  clear hS hn hv hnk
  go_enter Tryd.func8, Tryd.ntmps8
  go_wp2_with fail
  refine L.mono ?_; rintro e w1 ⟨rfl, b1⟩
  go_wp2_with fail
  refine (c1 _ b1).mono ?_; rintro e w2 ⟨rfl, b2⟩
  go_wp2_with fail
  refine (c2 _ b2).mono ?_; rintro e w3 ⟨rfl, b3⟩
  go_wp2_with fail
  refine (c3 _ b3).mono ?_; rintro e w4 ⟨rfl, b4⟩
  go_wp2_with fail
  refine (c4 _ b4).mono ?_; rintro e w5 ⟨rfl, b5⟩
  go_wp2
  go_ret
  exact ⟨rfl, b5⟩

set_option maxHeartbeats 1000000 in
theorem joined_whole (w : World) {ad : Nat → Addr} (hS : Std ad w) (a b : ByteArray) (more : Int) (ha : a.size ≤ 140737488351232) (hb : b.size ≤ 140737488351232) (hv : brk a.data.toList = a.size) :
    Calls Tryd.prog 8 #[.string a, .string b, .int .i64 more] w fun e w' => e = .returned (.bool true) ∧ Below w.heap.size w w' := by
  have L := lives_any w hS
  obtain ⟨m, hm⟩ : ∃ m, brk b.data.toList = m := ⟨_, rfl⟩
  have hmle := brk_le b.data.toList
  rw [size_toList, hm] at hmle
  have hab : (a ++ b).size = a.size + b.size := ByteArray.size_append
  have hbr : brk (a ++ b).data.toList = a.size + m := by
    rw [ByteArray.data_append, Array.toList_append, brk_append _ (by rw [hv, size_toList]), size_toList, hm]
  have c1 := fun W hW => check_n a a.size w W hS hW (by omega) hv
  have c3 := fun W hW => check_n b m w W hS hW (by omega) hm
  have c4 := fun W hW => check_n (a ++ b) (a.size + m) w W hS hW (by rw [hab]; omega) hbr
  obtain ⟨v3, hv3⟩ : ∃ v, v = (if m = b.size then Value.nilIface else errV ad 0) := ⟨_, rfl⟩
  obtain ⟨v4, hv4⟩ : ∃ v, v = (if a.size + m = (a ++ b).size then Value.nilIface else errV ad 0) := ⟨_, rfl⟩
  rw [← hv3] at c3
  rw [← hv4, Int.natCast_add] at c4
  simp only [if_true] at c1
  clear hS hv hm hab hbr hv3 hv4
  go_enter Tryd.func8, Tryd.ntmps8
  go_wp2_with fail
  refine L.mono ?_; rintro e w1 ⟨rfl, b1⟩
  go_wp2_with fail
  refine (c1 _ b1).mono ?_; rintro e w2 ⟨rfl, b2⟩
  go_wp2_with fail
  refine (c1 _ b2).mono ?_; rintro e w3 ⟨rfl, b3⟩
  go_wp2_with fail
  refine (c3 _ b3).mono ?_; rintro e w4 ⟨rfl, b4⟩
  go_wp2_with fail
  refine (c4 _ b4).mono ?_; rintro e w5 ⟨rfl, b5⟩
  go_wp2
  go_ret
  exact ⟨rfl, b5⟩

theorem joined_core (w : World) {ad : Nat → Addr} (hS : Std ad w) (a : ByteArray) (ha : a.size ≤ 140737488351232) (b : ByteArray) (hb : b.size ≤ 140737488351232) (more : Int) (hm : -9223372036854775808 ≤ more ∧ more ≤ 9223372036854775807) :
    Calls Tryd.prog 8 #[.string a, .string b, .int .i64 more] w fun e w' => e = .returned (.bool true) ∧ Below w.heap.size w w' := by
  by_cases hv : brk a.data.toList = a.size
  · exact joined_whole w hS a b more ha hb hv
  · exact joined_broken w hS a b more ha hv

set_option maxRecDepth 100000 in
theorem scalarsJoined_contract (H : Type) (enc : TypeId × Value → H) (W : World) (base : Nat) (args : Array Value) (ds gs : List (DataW H)) (before : List MemPlace)
    (hval : ∀ (j : Nat) t v, Tryd.f8.params[j]? = some t → args[j]? = some v → Value.okWide Tryd.prog W .any base t v)
    (hW : DataW.Whole enc Tryd.prog Tryd.f8.params.toList Rows.scalarsJoinedSpec.vars false W args.toList ds gs before)
    (hsz : (DataW.weightsEach Tryd.prog (Tryd.f8.params.toList ++ Rows.scalarsJoinedSpec.plain.varTypes Tryd.prog) (ds ++ gs)).all (· ≤ reachBytes) = true) (hL : laidMetH Tryd.prog laidL W) :
    Calls Tryd.prog 8 args W fun e W' => ∃ v, e = .returned v ∧ Rows.scalarsJoinedSpec.post enc Tryd.prog Tryd.f8 false true false false W args v W' := by
  have hW' := hW
  obtain ⟨p, q, hA0, hV, rfl, _, _⟩ := hW
  have hA : DataW.TrodAll enc Tryd.prog W 0 (fun _ => true) true Tryd.f8.params.toList args.toList ds p := hA0
  rw [Tryd.params8] at hA hval hsz
  obtain ⟨v0, vs0, d0, ds0, p0, q0, hargs, rfl, rfl, h0, r0⟩ := trodAll_cons hA
  obtain ⟨v1, vs1, d1, ds1, p1, q1, rfl, rfl, rfl, h1, r1⟩ := trodAll_cons r0
  obtain ⟨v2, vs2, d2, ds2, p2, q2, rfl, rfl, rfl, h2, r2⟩ := trodAll_cons r1
  obtain ⟨rfl, rfl, rfl⟩ := trodAll_nil r2
  obtain rfl : args = #[v0, v1, v2] := by cases args; simp_all
  obtain ⟨rfl, rfl⟩ := trodVars_none hV
  obtain ⟨x0, rfl, rfl, rfl, hs0⟩ := open_string Tryd.underlying9 (hval 0 9 v0 rfl rfl) h0
  have hx0 : x0.size ≤ 140737488351232 := by
    have := sized_string hsz (j := 0) (t := 9) rfl rfl
    rw [size_toList] at this; exact this
  obtain ⟨x1, rfl, rfl, rfl, hs1⟩ := open_string Tryd.underlying9 (hval 1 9 v1 rfl rfl) h1
  have hx1 : x1.size ≤ 140737488351232 := by
    have := sized_string hsz (j := 1) (t := 9) rfl rfl
    rw [size_toList] at this; exact this
  obtain ⟨x2, rfl, rfl, rfl, wx2⟩ := open_int Tryd.underlying3 (hval 2 3 v2 rfl rfl) h2
  have hx2 : -9223372036854775808 ≤ x2 ∧ x2 ≤ 9223372036854775807 := by simpa [Lit.wf, IntKind.min, IntKind.max, IntKind.signed, IntKind.bits] using wx2
  obtain ⟨ad, hS⟩ := std_of_laid hL
  refine (joined_core W hS x0 hx0 x1 hx1 x2 hx2).mono fun e W' ⟨he, hb⟩ => ?_
  subst he
  exact ⟨_, rfl, _, _, _, _, _, _, hW', trodAll_mk1 (shut_bool Tryd.underlying4 _), (trodAll_cons_mk (shut_string Tryd.underlying9 hs0) (trodAll_cons_mk (shut_string Tryd.underlying9 hs1) (trodAll_cons_mk (shut_int Tryd.underlying3 wx2) trodAll_mk0))), rfl, hb.frame _, fun h => by cases h⟩

theorem scalarsJoined_reads (os : Os) {H : Type} (enc : TypeId × Value → H) : ∃ x, DataW.whole enc Tryd.prog ((World.laidAll Tryd.prog os laidL).forCall (fun _ _ => 0) ⟨#[], #[.string ByteArray.empty, .string ByteArray.empty, .int .i64 0], []⟩).memory Tryd.f8.params.toList Rows.scalarsJoinedSpec.vars false #[(.string ByteArray.empty : Value), .string ByteArray.empty, .int .i64 0].toList 8 = some x ∧ x.1 = [.lit (.string []), .lit (.string []), .lit (.int .i64 0)] ∧ x.2.1 = [] :=
  ⟨([.lit (.string []), .lit (.string []), .lit (.int .i64 0)], [], []), by kernel_rfl, rfl, rfl⟩

set_option maxRecDepth 100000 in
theorem scalarsJoined_lifted (os : Os) (started : os.Started) (H : Type) (enc : TypeId × Value → H) (F : Stop.Interp) :
    ReturnsInHanded {} Tryd.checked os 8 .any ((OpenSpec.ofChange Rows.scalarsJoinedSpec).preRow enc Tryd.prog Tryd.f8 Rows.scalarsJoinedRow.domain false laidL) (((OpenSpec.ofChange Rows.scalarsJoinedSpec).at F).post enc Tryd.prog Tryd.f8 false true false false) := by
  obtain ⟨⟨xd, xg, xp⟩, hx, e1, e2⟩ := scalarsJoined_reads os enc
  simp only at e1 e2
  subst e1; subst e2
  refine returnsInHanded_of_row (C := Tryd.checked) (s := (OpenSpec.ofChange Rows.scalarsJoinedSpec)) own started (by kernel_rfl) Tryd.func8
    ⟨World.laidAll Tryd.prog os laidL, fun _ _ => 0, ⟨#[], #[.string ByteArray.empty, .string ByteArray.empty, .int .i64 0], []⟩, World.laidAll_os _ _ _, World.shaped_of_ZipB (by kernel_rfl) (by kernel_rfl), rfl, (Input.okWide_of_okWideB (by kernel_rfl)).2,
      OpenSpec.preRow_of_cond 8 hx (by kernel_rfl) (fun k hk => by cases hk) (by kernel_rfl) (wit_met os _), by
        simp only [Assume.holds]
        exact ⟨by simp, by simp, fun _ => Modest.zero, by simp, by simp⟩⟩ ?_
  intro W base args ds gs before hval hW _ hcond hsz hL _ _
  exact scalarsJoined_contract H enc W base args ds gs before hval hW hsz hL

theorem scalarsJoined_said : Rows.ScalarsJoinedSaid :=
  OpenClaim.holds_of_cond 8 Tryd.f8 rfl rfl rfl rfl rfl rfl rfl ⟨rfl, rfl, rfl, rfl, rfl⟩ rfl rfl rfl rfl rfl (by kernel_rfl) Tryd.func8 (by kernel_rfl)
    (of_decide_eq_true (by kernel_rfl)) (by unfold Func.isWrapper; first | (rw [if_pos (by decide +kernel)]; kernel_rfl) | (rw [if_neg (by decide +kernel)]; exact ⟨rfl, rfl⟩))
    (fun os started H enc _ F => by rw [OpenClaim.pre_eq_preRow]; exact scalarsJoined_lifted os started H enc F)

theorem scalarsJoined_plain (f : FuncId) (fn : Func) (hf : Tryd.pinned.checked.prog.funcNamed Rows.scalarsJoinedRow.func = some f) (hfn : Tryd.pinned.checked.prog.funcs[f]? = some fn) :
    true = Tryd.pinned.checked.prog.looks [] ∧ ∀ (j : Nat) t, fn.params[j]? = some t → Tryd.pinned.checked.prog.wantsStandIn t = false := by
  obtain rfl : f = 8 := Option.some.inj ((show Tryd.prog.funcNamed Rows.scalarsJoinedRow.func = some 8 by kernel_rfl).symm.trans hf) |>.symm
  obtain rfl : fn = Tryd.f8 := (Option.some.inj (Tryd.func8.symm.trans hfn)).symm
  refine ⟨by kernel_rfl, fun j t ht => ?_⟩
  rw [Tryd.params8] at ht
  have hm : t ∈ ([9, 3] : List Nat) := by have := Array.mem_of_getElem? ht; simp at this; simp; omega
  have hall : (([9, 3] : List Nat).all fun u => !Tryd.prog.wantsStandIn u) = true := by kernel_rfl
  exact (show Tryd.prog.wantsStandIn t = false by simpa using List.all_eq_true.1 hall t hm)

theorem scalarsJoined_card : Rows.ScalarsJoinedCardSaid :=
  Claim7.holds_tied_plain_at .later [] _ _ _ _ scalarsJoined_said (fun _ h => by cases h) (by kernel_rfl) (fun _ h => by cases h) scalarsJoined_row_tie rfl ⟨rfl, rfl⟩ (by kernel_rfl) rfl scalarsJoined_plain (by kernel_rfl)
end Go.Proofs.YtdnelmbihblakaaDoor
