/- Of all texts and numbers vellumlaw01.ScalarsCuts answers true and leaves them as they are. -/
import Derived.Test.YtdnelmbihblakaaDoorStd
import Derived.Test.YtdnelmbihblakaaDoorLives
import Derived.Test.YtdnelmbihblakaaDoorVt
namespace Go.Proofs.YtdnelmbihblakaaDoor
open Go Go.RowKit Go.Lib Go.ChangeShapes Go.WideShapes Go.ChangeAt
open Go.ChangeMaps (open_string shut_string)
set_option linter.unusedVariables false

set_option maxRecDepth 100000 in
theorem cuts_broken (w : World) {ad : Nat → Addr} (hS : Std ad w) (s : ByteArray) (i j : Int) (hs : s.size ≤ 140737488351232) (hv : brk s.data.toList ≠ s.size) :
    Calls Tryd.prog 7 #[.string s, .int .i64 i, .int .i64 j] w fun e w' => e = .returned (.bool true) ∧ Below w.heap.size w w' := by
  have L := lives_any w hS
  have c1 := fun W (hW : Below w.heap.size w W) => from_below hW (len_no s W (hS.below hW) (by omega) hv)
  clear hS hv
  go_enter Tryd.func7, Tryd.ntmps7
  go_wp2_with fail
  refine L.mono ?_; rintro e w1 ⟨rfl, b1⟩
  go_wp2_with fail
  refine (c1 _ b1).mono ?_; rintro e w2 ⟨rfl, b2⟩
  go_wp2
  go_ret
  exact ⟨rfl, b2⟩

theorem m_of (more : Int) (m : Int) (hm : 0 < m) (hz : m ≤ 281474976710657) : ∃ k : Nat, wrap64 ((IntKind.u64.wrap more).tmod m) = k ∧ (k : Int) < m := by
  obtain ⟨U, hU⟩ : ∃ U, IntKind.u64.wrap more = U := ⟨_, rfl⟩
  have hU0 : 0 ≤ U := by
    rw [← hU, IntKind.wrap_u64]; omega
  rw [hU, Int.tmod_eq_emod_of_nonneg hU0]
  have h1 := Int.emod_nonneg U (show m ≠ 0 by omega)
  have h2 := Int.emod_lt_of_pos U hm
  obtain ⟨R, hR⟩ : ∃ R, U % m = R := ⟨_, rfl⟩
  rw [hR] at h1 h2 ⊢
  refine ⟨R.toNat, ?_, by omega⟩
  unfold wrap64
  omega

set_option maxHeartbeats 2000000 in
set_option maxRecDepth 100000 in
theorem cuts_whole (w : World) {ad : Nat → Addr} (hS : Std ad w) (rs : List Nat) (h : scals rs) (i j : Int) (hs : (txt rs).size ≤ 140737488351232) :
    Calls Tryd.prog 7 #[.string (txt rs), .int .i64 i, .int .i64 j] w fun e w' => e = .returned (.bool true) ∧ Below w.heap.size w w' := by
  have L := lives_any w hS
  have hs2 : (txt rs).size ≤ 281474976710656 := by omega
  have hc := txt_count h
  obtain ⟨k, hk, hk2⟩ := m_of i ((rs.length : Int) + 1) (by omega) (by omega)
  obtain ⟨l, hl, hl2⟩ := m_of j ((rs.length : Int) - k + 1) (by omega) (by omega)
  have hA := scals_take h k
  have hB := scals_drop h k
  have hD := scals_drop hB l
  have sz : ∀ x y : List Nat, x ++ y = rs → (txt x).size ≤ 281474976710656 ∧ (txt y).size ≤ 281474976710656 := fun x y e => by
    have := congrArg ByteArray.size (txt_append x y)
    rw [ByteArray.size_append, e] at this
    omega
  have sA := sz _ _ (List.take_append_drop k rs)
  have sD : (txt ((rs.drop k).drop l)).size ≤ 281474976710656 := by
    have := congrArg ByteArray.size (txt_append ((rs.drop k).take l) ((rs.drop k).drop l))
    rw [ByteArray.size_append, List.take_append_drop] at this
    omega
  have c1 := fun W (hW : Below w.heap.size w W) => len_v h hs2 hS hW
  have c2 := fun W (hW : Below w.heap.size w W) => cut_v h hs2 hS hW k (by omega)
  have c3 := fun W (hW : Below w.heap.size w W) => len_v hA sA.1 hS hW
  have c4 := fun W (hW : Below w.heap.size w W) => len_v hB sA.2 hS hW
  have c5 := fun W (hW : Below w.heap.size w W) => cut_v hB sA.2 hS hW l (by rw [List.length_drop]; omega)
  have c6 := fun W (hW : Below w.heap.size w W) => cut_v h hs2 hS hW (k + l) (by omega)
  rw [show ((rs.take k).length : Int) = k from by rw [List.length_take]; omega] at c3
  rw [show ((rs.drop k).length : Int) = (rs.length : Int) - k from by rw [List.length_drop]; omega] at c4
  rw [List.take_add, ← txt_append, ← List.drop_drop, Int.natCast_add] at c6
  have eAB : txt (rs.take k) ++ txt (rs.drop k) = txt rs := by rw [txt_append, List.take_append_drop]
  have last : (l : Int) = (rs.length : Int) - k ∧ txt ((rs.drop k).drop l) = ⟨#[]⟩ ∨ ∃ R K : Nat, ¬ (l : Int) = (rs.length : Int) - k ∧ (∀ W, Below w.heap.size w W → Calls Tryd.prog 19 #[.string (txt rs), .int .i64 ((k : Int) + l)] W fun e w' => e = .returned (.tuple #[.int .i32 R, .nilIface]) ∧ Below w.heap.size w w') ∧
      (∀ W, Below w.heap.size w W → Calls Tryd.prog 19 #[.string (txt ((rs.drop k).drop l)), .int .i64 0] W fun e w' => e = .returned (.tuple #[.int .i32 R, .nilIface]) ∧ Below w.heap.size w w') ∧
      (∀ W, Calls Tryd.prog 23 #[.int .i32 R] W fun e w' => e = .returned (.int .i64 K) ∧ w' = W) ∧ 1 ≤ K ∧ K ≤ (txt ((rs.drop k).drop l)).size := by
    by_cases hlast : (l : Int) = (rs.length : Int) - k
    · refine Or.inl ⟨hlast, ?_⟩
      rw [List.drop_eq_nil_of_le (by rw [List.length_drop]; omega)]; rfl
    · have hkl : k + l < rs.length := by omega
      have hd : (rs.drop k).drop l = rs[k + l] :: rs.drop (k + l + 1) := by rw [List.drop_drop, List.drop_eq_getElem_cons hkl]
      have hr : scal rs[k + l] := h _ (List.getElem_mem hkl)
      refine Or.inr ⟨rs[k + l], (enc rs[k + l]).length, hlast, ?_, ?_, fun W => width_scal hr W, (enc_pos hr).1, ?_⟩
      · intro W hW
        have := at_v h hs2 hS hW (k + l) hkl
        rwa [Int.natCast_add] at this
      · intro W hW
        have := at_v hD sD hS hW 0 (by simp; omega)
        simp only [hd, List.getElem_cons_zero] at this
        rw [hd]
        exact this
      · rw [txt_size, hd, encs, List.length_append]; omega
  have hnb : rs.length ≤ 140737488351232 := by omega
  have sAB : (txt (rs.take k)).size + (txt (rs.drop k)).size ≤ 281474976710656 := by
    have := congrArg ByteArray.size eAB
    rw [ByteArray.size_append] at this
    omega
  have sAC : (txt (rs.take k)).size + (txt ((rs.drop k).take l)).size ≤ 281474976710656 := by
    have := congrArg ByteArray.size (txt_append ((rs.drop k).take l) ((rs.drop k).drop l))
    rw [ByteArray.size_append, List.take_append_drop] at this
    omega
  obtain ⟨n, hn⟩ : ∃ n, rs.length = n := ⟨_, rfl⟩
  obtain ⟨S, hS'⟩ : ∃ S, txt rs = S := ⟨_, rfl⟩
  obtain ⟨A, hA'⟩ : ∃ S, txt (rs.take k) = S := ⟨_, rfl⟩
  obtain ⟨B, hB'⟩ : ∃ S, txt (rs.drop k) = S := ⟨_, rfl⟩
  obtain ⟨C, hC'⟩ : ∃ S, txt ((rs.drop k).take l) = S := ⟨_, rfl⟩
  obtain ⟨D, hD'⟩ : ∃ S, txt ((rs.drop k).drop l) = S := ⟨_, rfl⟩
  simp only [hn, hS', hA', hB', hC', hD'] at *
  clear hS' hA' hB' hC' hD' hn sz sA sD hA hB hD hS hs hs2 h
  go_enter Tryd.func7, Tryd.ntmps7
  go_wp2_with fail
  refine L.mono ?_; rintro e w1 ⟨rfl, b1⟩
  go_wp2_with fail
  refine (c1 _ b1).mono ?_; rintro e w2 ⟨rfl, b2⟩
  go_wp2_with fail
  refine (c2 _ b2).mono ?_; rintro e w3 ⟨rfl, b3⟩
  go_wp2_with fail
  refine (c3 _ b3).mono ?_; rintro e w4 ⟨rfl, b4⟩
  go_wp2_with fail
  refine (c4 _ b4).mono ?_; rintro e w5 ⟨rfl, b5⟩
  clear c1 c2 c3 c4 b1 b2 b3 b4 L
  go_wp2_with fail
  refine (c5 _ b5).mono ?_; rintro e w6 ⟨rfl, b6⟩
  go_wp2_with fail
  refine (c6 _ b6).mono ?_; rintro e w7 ⟨rfl, b7⟩
  clear c5 c6 b5 b6
  rcases last with ⟨hlast, rfl⟩ | ⟨R, K, hlast, d1, d2, d3, hK1, hK2⟩
  · go_wp2
    go_ret
    exact ⟨rfl, b7⟩
  · have hK3 : decide ((1 : Int) ≤ (K : Int)) = true := decide_eq_true (by omega)
    go_wp2_with fail
    refine (d1 _ b7).mono ?_; rintro e w8 ⟨rfl, b8⟩
    go_wp2_with fail
    refine (d2 _ b8).mono ?_; rintro e w9 ⟨rfl, b9⟩
    clear d1 d2 b7 b8
    go_wp2_with fail
    refine (d3 _).mono ?_; rintro e w10 ⟨rfl, rfl⟩
    go_wp2_with fail
    refine (d3 _).mono ?_; rintro e w10 ⟨rfl, rfl⟩
    go_wp2
    go_ret
    exact ⟨rfl, b9⟩

theorem cuts_core (w : World) {ad : Nat → Addr} (hS : Std ad w) (s : ByteArray) (hs : s.size ≤ 140737488351232) (i : Int) (hi : -9223372036854775808 ≤ i ∧ i ≤ 9223372036854775807) (j : Int) (hj : -9223372036854775808 ≤ j ∧ j ≤ 9223372036854775807) :
    Calls Tryd.prog 7 #[.string s, .int .i64 i, .int .i64 j] w fun e w' => e = .returned (.bool true) ∧ Below w.heap.size w w' := by
  by_cases hv : brk s.data.toList = s.size
  · obtain ⟨e, h⟩ := txt_of hv
    rw [e] at hs ⊢
    exact cuts_whole w hS _ h i j hs
  · exact cuts_broken w hS s i j hs hv

set_option maxRecDepth 100000 in
theorem scalarsCuts_contract (H : Type) (enc : TypeId × Value → H) (W : World) (base : Nat) (args : Array Value) (ds gs : List (DataW H)) (before : List MemPlace)
    (hval : ∀ (j : Nat) t v, Tryd.f7.params[j]? = some t → args[j]? = some v → Value.okWide Tryd.prog W .any base t v)
    (hW : DataW.Whole enc Tryd.prog Tryd.f7.params.toList Rows.scalarsCutsSpec.vars false W args.toList ds gs before)
    (hsz : (DataW.weightsEach Tryd.prog (Tryd.f7.params.toList ++ Rows.scalarsCutsSpec.plain.varTypes Tryd.prog) (ds ++ gs)).all (· ≤ reachBytes) = true) (hL : laidMetH Tryd.prog laidL W) :
    Calls Tryd.prog 7 args W fun e W' => ∃ v, e = .returned v ∧ Rows.scalarsCutsSpec.post enc Tryd.prog Tryd.f7 false true false false W args v W' := by
  have hW' := hW
  obtain ⟨p, q, hA0, hV, rfl, _, _⟩ := hW
  have hA : DataW.TrodAll enc Tryd.prog W 0 (fun _ => true) true Tryd.f7.params.toList args.toList ds p := hA0
  rw [Tryd.params7] at hA hval hsz
  obtain ⟨v0, vs0, d0, ds0, p0, q0, hargs, rfl, rfl, h0, r0⟩ := trodAll_cons hA
  obtain ⟨v1, vs1, d1, ds1, p1, q1, rfl, rfl, rfl, h1, r1⟩ := trodAll_cons r0
  obtain ⟨v2, vs2, d2, ds2, p2, q2, rfl, rfl, rfl, h2, r2⟩ := trodAll_cons r1
  obtain ⟨rfl, rfl, rfl⟩ := trodAll_nil r2
  obtain rfl : args = #[v0, v1, v2] := by cases args; simp_all
  obtain ⟨rfl, rfl⟩ := trodVars_none hV
  obtain ⟨x0, rfl, rfl, rfl, hs0⟩ := open_string Tryd.underlying9 (hval 0 9 v0 rfl rfl) h0
  have hx0 : x0.size ≤ 140737488351232 := by
    have := sized_string hsz (j := 0) (t := 9) rfl rfl
    rw [size_toList] at this; exact this
  obtain ⟨x1, rfl, rfl, rfl, wx1⟩ := open_int Tryd.underlying3 (hval 1 3 v1 rfl rfl) h1
  have hx1 : -9223372036854775808 ≤ x1 ∧ x1 ≤ 9223372036854775807 := by simpa [Lit.wf, IntKind.min, IntKind.max, IntKind.signed, IntKind.bits] using wx1
  obtain ⟨x2, rfl, rfl, rfl, wx2⟩ := open_int Tryd.underlying3 (hval 2 3 v2 rfl rfl) h2
  have hx2 : -9223372036854775808 ≤ x2 ∧ x2 ≤ 9223372036854775807 := by simpa [Lit.wf, IntKind.min, IntKind.max, IntKind.signed, IntKind.bits] using wx2
  obtain ⟨ad, hS⟩ := std_of_laid hL
  refine (cuts_core W hS x0 hx0 x1 hx1 x2 hx2).mono fun e W' ⟨he, hb⟩ => ?_
  subst he
  exact ⟨_, rfl, _, _, _, _, _, _, hW', trodAll_mk1 (shut_bool Tryd.underlying4 _), (trodAll_cons_mk (shut_string Tryd.underlying9 hs0) (trodAll_cons_mk (shut_int Tryd.underlying3 wx1) (trodAll_cons_mk (shut_int Tryd.underlying3 wx2) trodAll_mk0))), rfl, hb.frame _, fun h => by cases h⟩

theorem scalarsCuts_reads (os : Os) {H : Type} (enc : TypeId × Value → H) : ∃ x, DataW.whole enc Tryd.prog ((World.laidAll Tryd.prog os laidL).forCall (fun _ _ => 0) ⟨#[], #[.string ByteArray.empty, .int .i64 0, .int .i64 0], []⟩).memory Tryd.f7.params.toList Rows.scalarsCutsSpec.vars false #[(.string ByteArray.empty : Value), .int .i64 0, .int .i64 0].toList 8 = some x ∧ x.1 = [.lit (.string []), .lit (.int .i64 0), .lit (.int .i64 0)] ∧ x.2.1 = [] :=
  ⟨([.lit (.string []), .lit (.int .i64 0), .lit (.int .i64 0)], [], []), by kernel_rfl, rfl, rfl⟩

set_option maxRecDepth 100000 in
theorem scalarsCuts_lifted (os : Os) (started : os.Started) (H : Type) (enc : TypeId × Value → H) (F : Stop.Interp) :
    ReturnsInHanded {} Tryd.checked os 7 .any ((OpenSpec.ofChange Rows.scalarsCutsSpec).preRow enc Tryd.prog Tryd.f7 Rows.scalarsCutsRow.domain false laidL) (((OpenSpec.ofChange Rows.scalarsCutsSpec).at F).post enc Tryd.prog Tryd.f7 false true false false) := by
  obtain ⟨⟨xd, xg, xp⟩, hx, e1, e2⟩ := scalarsCuts_reads os enc
  simp only at e1 e2
  subst e1; subst e2
  refine returnsInHanded_of_row (C := Tryd.checked) (s := (OpenSpec.ofChange Rows.scalarsCutsSpec)) own started (by kernel_rfl) Tryd.func7
    ⟨World.laidAll Tryd.prog os laidL, fun _ _ => 0, ⟨#[], #[.string ByteArray.empty, .int .i64 0, .int .i64 0], []⟩, World.laidAll_os _ _ _, World.shaped_of_ZipB (by kernel_rfl) (by kernel_rfl), rfl, (Input.okWide_of_okWideB (by kernel_rfl)).2,
      OpenSpec.preRow_of_cond 8 hx (by kernel_rfl) (fun k hk => by cases hk) (by kernel_rfl) (wit_met os _), by
        simp only [Assume.holds]
        exact ⟨by simp, by simp, fun _ => Modest.zero, by simp, by simp⟩⟩ ?_
  intro W base args ds gs before hval hW _ hcond hsz hL _ _
  exact scalarsCuts_contract H enc W base args ds gs before hval hW hsz hL

theorem scalarsCuts_said : Rows.ScalarsCutsSaid :=
  OpenClaim.holds_of_cond 7 Tryd.f7 rfl rfl rfl rfl rfl rfl rfl ⟨rfl, rfl, rfl, rfl, rfl⟩ rfl rfl rfl rfl rfl (by kernel_rfl) Tryd.func7 (by kernel_rfl)
    (of_decide_eq_true (by kernel_rfl)) (by unfold Func.isWrapper; first | (rw [if_pos (by decide +kernel)]; kernel_rfl) | (rw [if_neg (by decide +kernel)]; exact ⟨rfl, rfl⟩))
    (fun os started H enc _ F => by rw [OpenClaim.pre_eq_preRow]; exact scalarsCuts_lifted os started H enc F)

theorem scalarsCuts_plain (f : FuncId) (fn : Func) (hf : Tryd.pinned.checked.prog.funcNamed Rows.scalarsCutsRow.func = some f) (hfn : Tryd.pinned.checked.prog.funcs[f]? = some fn) :
    true = Tryd.pinned.checked.prog.looks [] ∧ ∀ (j : Nat) t, fn.params[j]? = some t → Tryd.pinned.checked.prog.wantsStandIn t = false := by
  obtain rfl : f = 7 := Option.some.inj ((show Tryd.prog.funcNamed Rows.scalarsCutsRow.func = some 7 by kernel_rfl).symm.trans hf) |>.symm
  obtain rfl : fn = Tryd.f7 := (Option.some.inj (Tryd.func7.symm.trans hfn)).symm
  refine ⟨by kernel_rfl, fun j t ht => ?_⟩
  rw [Tryd.params7] at ht
  have hm : t ∈ ([9, 3] : List Nat) := by have := Array.mem_of_getElem? ht; simp at this; simp; omega
  have hall : (([9, 3] : List Nat).all fun u => !Tryd.prog.wantsStandIn u) = true := by kernel_rfl
  exact (show Tryd.prog.wantsStandIn t = false by simpa using List.all_eq_true.1 hall t hm)

theorem scalarsCuts_card : Rows.ScalarsCutsCardSaid :=
  Claim7.holds_tied_plain_at .later [] _ _ _ _ scalarsCuts_said (fun _ h => by cases h) (by kernel_rfl) (fun _ h => by cases h) scalarsCuts_row_tie rfl ⟨rfl, rfl⟩ (by kernel_rfl) rfl scalarsCuts_plain (by kernel_rfl)
end Go.Proofs.YtdnelmbihblakaaDoor
