/- Of all texts and numbers of bulk within the bound vellumlaw01.ScalarsPlaces answers true and leaves them as they are. -/
import Derived.Test.YtdnelmbihblakaaDoorStd
import Derived.Test.YtdnelmbihblakaaDoorDcw
namespace Go.Proofs.YtdnelmbihblakaaDoor
open Go Go.RowKit Go.Lib Go.ChangeShapes Go.WideShapes Go.ChangeAt
open Go.ChangeMaps (open_string shut_string)
set_option linter.unusedVariables false

/-- The cells of an owned list, and its pieces. -/
theorem own_cells {w : World} {B g n cap : Nat} {zs : List Int} (h : w.ownsRow B 21 1 (.slice (some ⟨g, 0, none⟩) n cap) zs.length (cells32 zs)) (hn : n = zs.length) :
    (∀ j, j < zs.length → w.cell? ⟨g, j, none⟩ = some (.int .i32 (zs.getD j 0))) ∧ zs.length ≤ cap := by
  subst hn
  rcases h.2 with ⟨h0, _⟩ | ⟨g', cap', cur, h1, h2, h3, h4, h5, h6, h7⟩
  · cases h0
  · simp only [Value.slice.injEq, Option.some.injEq, Addr.mk.injEq, and_true, true_and] at h1
    obtain ⟨rfl, rfl⟩ := h1
    refine ⟨fun j hj => ?_, h4⟩
    have := congrArg (·[j]?) h7
    simp only [Nat.mul_one, List.getElem?_take, hj, if_true] at this
    have e : (cells32 zs)[j]? = some (.int .i32 (zs.getD j 0)) := by
      rw [cells32, List.getElem?_map, List.getD, List.getElem?_eq_getElem hj]; rfl
    rw [e] at this
    simp only [World.cell?, h3]
    simpa using this
theorem row_head {w : World} {g cap : Nat} {rs : List Nat} (h : ∀ j, j < rs.length → w.cell? ⟨g, j, none⟩ = some (.int .i32 ((ints rs).getD j 0))) (i : Nat) (hi : i ≤ rs.length) :
    Row32 w (.slice (some ⟨g, 0, none⟩) i cap) (ints (rs.take i)) := by
  have hl : (ints (rs.take i)).length = i := by rw [ints_length, List.length_take]; omega
  refine ⟨some ⟨g, 0, none⟩, cap, by rw [hl], fun j hj => ⟨g, 0, rfl, ?_⟩⟩
  rw [hl] at hj
  rw [Nat.zero_add, h j (by omega), ints_get _ j (by omega), ints_get _ j (by rw [List.length_take]; omega), List.getElem_take]
theorem row_tail {w : World} {g cap : Nat} {rs : List Nat} (h : ∀ j, j < rs.length → w.cell? ⟨g, j, none⟩ = some (.int .i32 ((ints rs).getD j 0))) (i m : Nat) (hm : i + m = rs.length) :
    Row32 w (.slice (some ⟨g, i, none⟩) m cap) (ints (rs.drop i)) := by
  have hl : (ints (rs.drop i)).length = m := by rw [ints_length, List.length_drop]; omega
  refine ⟨some ⟨g, i, none⟩, cap, by rw [hl], fun j hj => ⟨g, i, rfl, ?_⟩⟩
  rw [hl] at hj
  rw [h (i + j) (by omega), ints_get _ _ (by omega), ints_get _ j (by rw [List.length_drop]; omega), List.getElem_drop]

set_option maxHeartbeats 1000000 in
set_option maxRecDepth 100000 in
theorem places_in (w : World) {ad : Nat → Addr} (hS : Std ad w) (rs : List Nat) (h : scals rs) (i : Nat) (hi : i < rs.length) (hs : (txt rs).size ≤ 1048576) :
    Calls Tryd.prog 4 #[.string (txt rs), .int .i64 i] w fun e w' => e = .returned (.bool true) ∧ Below w.heap.size w w' := by
  have L := lives_any w hS
  have hc := txt_count h
  have c1 := fun W (hW : Below w.heap.size w W) => from_below hW (ref_check_ok (txt rs) W (by omega) (txt_brk h))
  have c2 := fun W => ref_list (txt rs) W (by omega)
  rw [txt_scs h] at c2
  go_enter Tryd.func4, Tryd.ntmps4
  go_wp2_with fail
  refine L.mono ?_; rintro e w1 ⟨rfl, b1⟩
  go_wp2_with fail
  refine (c1 _ b1).mono ?_; rintro e w2 ⟨rfl, b2⟩
  go_wp2_with fail
  refine (c2 _).mono ?_; rintro e w3 ⟨v, rfl, hown, ⟨g, cap, rfl⟩, k3⟩
  have b3 := b2.trans (k3.mono b2.size)
  have hown' : w3.ownsRow w2.heap.size 21 1 (.slice (some ⟨g, 0, none⟩) rs.length cap) (ints rs).length (cells32 (ints rs)) := hown
  obtain ⟨hcell, hcap⟩ := own_cells hown' (by rw [ints_length])
  rw [ints_length] at hcell hcap
  have hS3 := hS.below b3
  have z3 := Below.refl w3.heap.size w3
  have hcW : ∀ W, Below w3.heap.size w3 W → ∀ j, j < rs.length → W.cell? ⟨g, j, none⟩ = some (.int .i32 ((ints rs).getD j 0)) := fun W hW j hj => by
    rw [hW.cell (lt_of_cell (hcell j hj))]; exact hcell j hj
  have c3 := fun W (hW : Below w3.heap.size w3 W) => cut_v h (by omega) hS3 hW i (by omega)
  have c4 := fun W (hW : Below w3.heap.size w3 W) => at_v h (by omega) hS3 hW i hi
  have cT := fun W (hW : Below w3.heap.size w3 W) => from_below hW (ref_text _ (rs.take i) W (row_head (cap := cap) (hcW W hW) i (by omega)) (scals_take h i) (by rw [List.length_take]; omega))
  have cD := fun W (hW : Below w3.heap.size w3 W) => from_below hW (ref_text _ (rs.drop i) W (row_tail (cap := cap - i) (hcW W hW) i (rs.length - i) (by omega)) (scals_drop h i) (by rw [List.length_drop]; omega))
  have cI := fun W hW => hcW W hW i hi
  simp only [ints_get rs i hi] at cI
  obtain ⟨n, hn⟩ : ∃ n, rs.length = n := ⟨_, rfl⟩
  obtain ⟨R, hR⟩ : ∃ R, rs[i] = R := ⟨_, rfl⟩
  obtain ⟨S, hS'⟩ : ∃ S, txt rs = S := ⟨_, rfl⟩
  obtain ⟨A, hA'⟩ : ∃ S, txt (rs.take i) = S := ⟨_, rfl⟩
  obtain ⟨B, hB'⟩ : ∃ S, txt (rs.drop i) = S := ⟨_, rfl⟩
  rw [hS'] at hc
  simp only [hn, hR, hS', hA', hB'] at c3 c4 cT cD cI hcap hc hi ⊢
  have hiI : (i : Int) < n := by omega
  clear hown hown' k3 hcW hcell hS3 hS hR hS' hA' hB' hn h c1 c2 L b1
  go_wp2_with fail
  refine (c3 _ z3).mono ?_; rintro e w4 ⟨rfl, b4⟩
  go_wp2_with fail
  refine (c4 _ b4).mono ?_; rintro e w5 ⟨rfl, b5⟩
  clear c3 c4 b4
  go_wp2_with fail
  refine (cT _ b5).mono ?_; rintro e w6 ⟨rfl, b6⟩
  go_wp2_with fail
  refine (cD _ b6).mono ?_; rintro e w7 ⟨rfl, b7⟩
  have hci := cI _ b7
  clear cT cD cI b5 b6
  go_wp2
  go_ret
  exact ⟨rfl, b3.trans (b7.mono b3.size)⟩

set_option maxHeartbeats 1000000 in
set_option maxRecDepth 100000 in
theorem places_end (w : World) {ad : Nat → Addr} (hS : Std ad w) (rs : List Nat) (h : scals rs) (i : Nat) (hi : i = rs.length) (hs : (txt rs).size ≤ 1048576) :
    Calls Tryd.prog 4 #[.string (txt rs), .int .i64 i] w fun e w' => e = .returned (.bool true) ∧ Below w.heap.size w w' := by
  have L := lives_any w hS
  have hc := txt_count h
  have c1 := fun W (hW : Below w.heap.size w W) => from_below hW (ref_check_ok (txt rs) W (by omega) (txt_brk h))
  have c2 := fun W => ref_list (txt rs) W (by omega)
  rw [txt_scs h] at c2
  go_enter Tryd.func4, Tryd.ntmps4
  go_wp2_with fail
  refine L.mono ?_; rintro e w1 ⟨rfl, b1⟩
  go_wp2_with fail
  refine (c1 _ b1).mono ?_; rintro e w2 ⟨rfl, b2⟩
  go_wp2_with fail
  refine (c2 _).mono ?_; rintro e w3 ⟨v, rfl, hown, ⟨g, cap, rfl⟩, k3⟩
  have b3 := b2.trans (k3.mono b2.size)
  have hown' : w3.ownsRow w2.heap.size 21 1 (.slice (some ⟨g, 0, none⟩) rs.length cap) (ints rs).length (cells32 (ints rs)) := hown
  obtain ⟨hcell, hcap⟩ := own_cells hown' (by rw [ints_length])
  rw [ints_length] at hcell hcap
  have hS3 := hS.below b3
  have z3 := Below.refl w3.heap.size w3
  have hcW : ∀ W, Below w3.heap.size w3 W → ∀ j, j < rs.length → W.cell? ⟨g, j, none⟩ = some (.int .i32 ((ints rs).getD j 0)) := fun W hW j hj => by
    rw [hW.cell (lt_of_cell (hcell j hj))]; exact hcell j hj
  have c3 := fun W (hW : Below w3.heap.size w3 W) => cut_v h (by omega) hS3 hW i (by omega)
  have c4 := fun W (hW : Below w3.heap.size w3 W) => at_out h (by omega) hS3 hW i (by omega)
  have cN := fun W (hW : Below w3.heap.size w3 W) => from_below hW (num_err (hS3.below hW).sent 11 (by omega))
  have cT := fun W (hW : Below w3.heap.size w3 W) => from_below hW (ref_text _ (rs.take i) W (row_head (cap := cap) (hcW W hW) i (by omega)) (scals_take h i) (by rw [List.length_take]; omega))
  have cD := fun p c W (hW : Below w3.heap.size w3 W) => from_below hW (ref_text (.slice p 0 c) (rs.drop i) W ⟨p, c, by rw [ints_length, List.length_drop, hi, Nat.sub_self], fun j hj => by rw [ints_length, List.length_drop] at hj; omega⟩ (scals_drop h i) (by rw [List.length_drop]; omega))
  obtain ⟨n, hn⟩ : ∃ n, rs.length = n := ⟨_, rfl⟩
  obtain ⟨S, hS'⟩ : ∃ S, txt rs = S := ⟨_, rfl⟩
  obtain ⟨A, hA'⟩ : ∃ S, txt (rs.take i) = S := ⟨_, rfl⟩
  obtain ⟨B, hB'⟩ : ∃ S, txt (rs.drop i) = S := ⟨_, rfl⟩
  rw [hS'] at hc
  simp only [hn, hS', hA', hB'] at c3 c4 cT cD cN hcap hc hi ⊢
  subst hi
  clear hown hown' k3 hcW hcell hS3 hS hS' hA' hB' hn h c1 c2 L b1
  go_wp2_with fail
  refine (c3 _ z3).mono ?_; rintro e w4 ⟨rfl, b4⟩
  go_wp2_with fail
  refine (c4 _ b4).mono ?_; rintro e w5 ⟨rfl, b5⟩
  clear c3 c4 b4
  go_wp2_with fail
  refine (cT _ b5).mono ?_; rintro e w6 ⟨rfl, b6⟩
  go_wp2_with fail
  all_goals
    refine (cD _ _ _ b6).mono ?_; rintro e w7 ⟨rfl, b7⟩
    go_wp2_with fail
    refine (cN _ b7).mono ?_; rintro e w8 ⟨rfl, b8⟩
    go_wp2
    go_ret
    exact ⟨rfl, b3.trans (b8.mono b3.size)⟩


set_option maxHeartbeats 1000000 in
set_option maxRecDepth 100000 in
theorem places_out (w : World) {ad : Nat → Addr} (hS : Std ad w) (rs : List Nat) (h : scals rs) (i : Int) (hi : i < 0 ∨ i > rs.length) (hs : (txt rs).size ≤ 1048576) :
    Calls Tryd.prog 4 #[.string (txt rs), .int .i64 i] w fun e w' => e = .returned (.bool true) ∧ Below w.heap.size w w' := by
  have L := lives_any w hS
  have hc := txt_count h
  have c1 := fun W (hW : Below w.heap.size w W) => from_below hW (ref_check_ok (txt rs) W (by omega) (txt_brk h))
  have c2 := fun W => ref_list (txt rs) W (by omega)
  rw [txt_scs h] at c2
  have c3 := fun W (hW : Below w.heap.size w W) => cut_out h (by omega) hS hW i hi
  have c4 := fun W (hW : Below w.heap.size w W) => at_out h (by omega) hS hW i (by omega)
  have cN := fun W (hW : Below w.heap.size w W) => from_below hW (num_err (hS.below hW).sent 11 (by omega))
  obtain ⟨n, hn⟩ : ∃ n, rs.length = n := ⟨_, rfl⟩
  obtain ⟨S, hS'⟩ : ∃ S, txt rs = S := ⟨_, rfl⟩
  simp only [hn, hS'] at *
  clear hn hS' hS h
  by_cases h0 : i < 0
  · clear hi
    go_enter Tryd.func4, Tryd.ntmps4
    go_wp2_with fail
    refine L.mono ?_; rintro e w1 ⟨rfl, b1⟩
    go_wp2_with fail
    refine (c1 _ b1).mono ?_; rintro e w2 ⟨rfl, b2⟩
    go_wp2_with fail
    refine (c2 _).mono ?_; rintro e w3 ⟨v, rfl, hown, ⟨g, cap, rfl⟩, k3⟩
    have b3 := b2.trans (k3.mono b2.size)
    clear hown k3
    go_wp2_with fail
    refine (c3 _ b3).mono ?_; rintro e w4 ⟨rfl, b4⟩
    go_wp2_with fail
    refine (c4 _ b4).mono ?_; rintro e w5 ⟨rfl, b5⟩
    go_wp2_with fail
    refine (cN _ b5).mono ?_; rintro e w6 ⟨rfl, b6⟩
    go_wp2_with fail
    refine (cN _ b6).mono ?_; rintro e w7 ⟨rfl, b7⟩
    go_wp2
    go_ret
    exact ⟨rfl, b7⟩
  · have h1 : i > (n : Int) := by omega
    clear hi
    go_enter Tryd.func4, Tryd.ntmps4
    go_wp2_with fail
    refine L.mono ?_; rintro e w1 ⟨rfl, b1⟩
    go_wp2_with fail
    refine (c1 _ b1).mono ?_; rintro e w2 ⟨rfl, b2⟩
    go_wp2_with fail
    refine (c2 _).mono ?_; rintro e w3 ⟨v, rfl, hown, ⟨g, cap, rfl⟩, k3⟩
    have b3 := b2.trans (k3.mono b2.size)
    clear hown k3
    go_wp2_with fail
    refine (c3 _ b3).mono ?_; rintro e w4 ⟨rfl, b4⟩
    go_wp2_with fail
    refine (c4 _ b4).mono ?_; rintro e w5 ⟨rfl, b5⟩
    go_wp2_with fail
    refine (cN _ b5).mono ?_; rintro e w6 ⟨rfl, b6⟩
    go_wp2_with fail
    refine (cN _ b6).mono ?_; rintro e w7 ⟨rfl, b7⟩
    go_wp2
    go_ret
    exact ⟨rfl, b7⟩

set_option maxHeartbeats 1000000 in
set_option maxRecDepth 100000 in
theorem places_broken (w : World) {ad : Nat → Addr} (hS : Std ad w) (s : ByteArray) (i : Int) (hs : s.size ≤ 1048576) (hv : brk s.data.toList ≠ s.size) :
    Calls Tryd.prog 4 #[.string s, .int .i64 i] w fun e w' => e = .returned (.bool true) ∧ Below w.heap.size w w' := by
  have L := lives_any w hS
  have c1 := fun W (hW : Below w.heap.size w W) => from_below hW (ref_check_no s W (by omega) hv)
  have c2 := fun W => ref_list s W (by omega)
  have c3 := fun W (hW : Below w.heap.size w W) => from_below hW (cut_no s i W (hS.below hW) (by omega) hv)
  have c4 := fun W (hW : Below w.heap.size w W) => from_below hW (at_no s i W (hS.below hW) (by omega) hv)
  have cN := fun W (hW : Below w.heap.size w W) => from_below hW (num_err (hS.below hW).sent 0 (by omega))
  obtain ⟨n, hn⟩ : ∃ n, brk s.data.toList = n := ⟨_, rfl⟩
  rw [hn] at c1
  clear hS hv hn
  go_enter Tryd.func4, Tryd.ntmps4
  go_wp2_with fail
  refine L.mono ?_; rintro e w1 ⟨rfl, b1⟩
  go_wp2_with fail
  refine (c1 _ b1).mono ?_; rintro e w2 ⟨rfl, b2⟩
  go_wp2_with fail
  refine (c2 _).mono ?_; rintro e w3 ⟨v, rfl, hown, ⟨g, cap, rfl⟩, k3⟩
  have b3 := b2.trans (k3.mono b2.size)
  clear hown k3
  go_wp2_with fail
  refine (c3 _ b3).mono ?_; rintro e w4 ⟨rfl, b4⟩
  go_wp2_with fail
  refine (c4 _ b4).mono ?_; rintro e w5 ⟨rfl, b5⟩
  go_wp2_with fail
  refine (cN _ b5).mono ?_; rintro e w6 ⟨rfl, b6⟩
  go_wp2_with fail
  refine (cN _ b6).mono ?_; rintro e w7 ⟨rfl, b7⟩
  go_wp2
  go_ret
  exact ⟨rfl, b7⟩

theorem places_core (w : World) {ad : Nat → Addr} (hS : Std ad w) (s : ByteArray) (hs : s.size ≤ 1048576) (i : Int) (hi : -9223372036854775808 ≤ i ∧ i ≤ 9223372036854775807) :
    Calls Tryd.prog 4 #[.string s, .int .i64 i] w fun e w' => e = .returned (.bool true) ∧ Below w.heap.size w w' := by
  by_cases hv : brk s.data.toList = s.size
  · obtain ⟨e, h⟩ := txt_of hv
    rw [e] at hs ⊢
    by_cases h0 : i < 0 ∨ i > (scs s.data.toList).length
    · exact places_out w hS _ h i h0 hs
    · obtain ⟨k, rfl⟩ : ∃ k : Nat, i = k := ⟨i.toNat, by omega⟩
      by_cases h1 : k < (scs s.data.toList).length
      · exact places_in w hS _ h k h1 hs
      · exact places_end w hS _ h k (by omega) hs
  · exact places_broken w hS s i hs hv

set_option maxRecDepth 100000 in
theorem scalarsPlaces_contract (H : Type) (enc : TypeId × Value → H) (W : World) (base : Nat) (args : Array Value) (ds gs : List (DataW H)) (before : List MemPlace)
    (hval : ∀ (j : Nat) t v, Tryd.f4.params[j]? = some t → args[j]? = some v → Value.okWide Tryd.prog W .any base t v)
    (hW : DataW.Whole enc Tryd.prog Tryd.f4.params.toList Rows.scalarsPlacesSpec.vars false W args.toList ds gs before)
    (hcond : Rows.uptoSmall H (ds ++ gs) = true)
    (hsz : (DataW.weightsEach Tryd.prog (Tryd.f4.params.toList ++ Rows.scalarsPlacesSpec.plain.varTypes Tryd.prog) (ds ++ gs)).all (· ≤ reachBytes) = true) (hL : laidMetH Tryd.prog laidL W) :
    Calls Tryd.prog 4 args W fun e W' => ∃ v, e = .returned v ∧ Rows.scalarsPlacesSpec.post enc Tryd.prog Tryd.f4 false true false false W args v W' := by
  have hW' := hW
  obtain ⟨p, q, hA0, hV, rfl, _, _⟩ := hW
  have hA : DataW.TrodAll enc Tryd.prog W 0 (fun _ => true) true Tryd.f4.params.toList args.toList ds p := hA0
  rw [Tryd.params4] at hA hval hsz
  obtain ⟨v0, vs0, d0, ds0, p0, q0, hargs, rfl, rfl, h0, r0⟩ := trodAll_cons hA
  obtain ⟨v1, vs1, d1, ds1, p1, q1, rfl, rfl, rfl, h1, r1⟩ := trodAll_cons r0
  obtain ⟨rfl, rfl, rfl⟩ := trodAll_nil r1
  obtain rfl : args = #[v0, v1] := by cases args; simp_all
  obtain ⟨rfl, rfl⟩ := trodVars_none hV
  obtain ⟨x0, rfl, rfl, rfl, hs0⟩ := open_string Tryd.underlying9 (hval 0 9 v0 rfl rfl) h0
  have hx0 : x0.size ≤ 140737488351232 := by
    have := sized_string hsz (j := 0) (t := 9) rfl rfl
    rw [size_toList] at this; exact this
  have hu0 : x0.size ≤ 1048576 := by
    have := of_decide_eq_true hcond
    simp only [Rows.uptoBulkAll, Rows.uptoBulk, List.append_nil, size_toList] at this
    omega
  obtain ⟨x1, rfl, rfl, rfl, wx1⟩ := open_int Tryd.underlying3 (hval 1 3 v1 rfl rfl) h1
  have hx1 : -9223372036854775808 ≤ x1 ∧ x1 ≤ 9223372036854775807 := by simpa [Lit.wf, IntKind.min, IntKind.max, IntKind.signed, IntKind.bits] using wx1
  obtain ⟨ad, hS⟩ := std_of_laid hL
  refine (places_core W hS x0 hu0 x1 hx1).mono fun e W' ⟨he, hb⟩ => ?_
  subst he
  exact ⟨_, rfl, _, _, _, _, _, _, hW', trodAll_mk1 (shut_bool Tryd.underlying4 _), (trodAll_cons_mk (shut_string Tryd.underlying9 hs0) (trodAll_cons_mk (shut_int Tryd.underlying3 wx1) trodAll_mk0)), rfl, hb.frame _, fun h => by cases h⟩

theorem scalarsPlaces_reads (os : Os) {H : Type} (enc : TypeId × Value → H) : ∃ x, DataW.whole enc Tryd.prog ((World.laidAll Tryd.prog os laidL).forCall (fun _ _ => 0) ⟨#[], #[.string ByteArray.empty, .int .i64 0], []⟩).memory Tryd.f4.params.toList Rows.scalarsPlacesSpec.vars false #[(.string ByteArray.empty : Value), .int .i64 0].toList 8 = some x ∧ x.1 = [.lit (.string []), .lit (.int .i64 0)] ∧ x.2.1 = [] :=
  ⟨([.lit (.string []), .lit (.int .i64 0)], [], []), by kernel_rfl, rfl, rfl⟩

set_option maxRecDepth 100000 in
theorem scalarsPlaces_lifted (os : Os) (started : os.Started) (H : Type) (enc : TypeId × Value → H) (F : Stop.Interp) :
    ReturnsInHanded {} Tryd.checked os 4 .any ((Rows.OpenSpec.upto Rows.scalarsPlacesSpec).preRow enc Tryd.prog Tryd.f4 Rows.scalarsPlacesUptoRow.domain false laidL) (((Rows.OpenSpec.upto Rows.scalarsPlacesSpec).at F).post enc Tryd.prog Tryd.f4 false true false false) := by
  obtain ⟨⟨xd, xg, xp⟩, hx, e1, e2⟩ := scalarsPlaces_reads os enc
  simp only at e1 e2
  subst e1; subst e2
  refine returnsInHanded_of_row (C := Tryd.checked) (s := (Rows.OpenSpec.upto Rows.scalarsPlacesSpec)) own started (by kernel_rfl) Tryd.func4
    ⟨World.laidAll Tryd.prog os laidL, fun _ _ => 0, ⟨#[], #[.string ByteArray.empty, .int .i64 0], []⟩, World.laidAll_os _ _ _, World.shaped_of_ZipB (by kernel_rfl) (by kernel_rfl), rfl, (Input.okWide_of_okWideB (by kernel_rfl)).2,
      OpenSpec.preRow_of_cond 8 hx (by kernel_rfl) (fun k hk => by cases hk; kernel_rfl) (by kernel_rfl) (wit_met os _), by
        simp only [Assume.holds]
        exact ⟨by simp, by simp, fun _ => Modest.zero, by simp, by simp⟩⟩ ?_
  intro W base args ds gs before hval hW _ hcond hsz hL _ _
  exact scalarsPlaces_contract H enc W base args ds gs before hval hW (hcond _ rfl) hsz hL

theorem scalarsPlaces_said : Rows.ScalarsPlacesUptoSaid :=
  OpenClaim.holds_of_cond 4 Tryd.f4 rfl rfl rfl rfl rfl rfl rfl ⟨rfl, rfl, rfl, rfl, rfl⟩ rfl rfl rfl rfl rfl (by kernel_rfl) Tryd.func4 (by kernel_rfl)
    (of_decide_eq_true (by kernel_rfl)) (by unfold Func.isWrapper; first | (rw [if_pos (by decide +kernel)]; kernel_rfl) | (rw [if_neg (by decide +kernel)]; exact ⟨rfl, rfl⟩))
    (fun os started H enc _ F => by rw [OpenClaim.pre_eq_preRow]; exact scalarsPlaces_lifted os started H enc F)

theorem scalarsPlaces_plain (f : FuncId) (fn : Func) (hf : Tryd.pinned.checked.prog.funcNamed Rows.scalarsPlacesUptoRow.func = some f) (hfn : Tryd.pinned.checked.prog.funcs[f]? = some fn) :
    true = Tryd.pinned.checked.prog.looks [] ∧ ∀ (j : Nat) t, fn.params[j]? = some t → Tryd.pinned.checked.prog.wantsStandIn t = false := by
  obtain rfl : f = 4 := Option.some.inj ((show Tryd.prog.funcNamed Rows.scalarsPlacesUptoRow.func = some 4 by kernel_rfl).symm.trans hf) |>.symm
  obtain rfl : fn = Tryd.f4 := (Option.some.inj (Tryd.func4.symm.trans hfn)).symm
  refine ⟨by kernel_rfl, fun j t ht => ?_⟩
  rw [Tryd.params4] at ht
  have hm : t ∈ ([9, 3] : List Nat) := by have := Array.mem_of_getElem? ht; simp at this; simp; omega
  have hall : (([9, 3] : List Nat).all fun u => !Tryd.prog.wantsStandIn u) = true := by kernel_rfl
  exact (show Tryd.prog.wantsStandIn t = false by simpa using List.all_eq_true.1 hall t hm)

theorem scalarsPlaces_card : Rows.ScalarsPlacesUptoCardSaid :=
  Claim7.holds_tied_plain_at .later [] _ _ _ _ scalarsPlaces_said (fun _ h => by cases h) (by kernel_rfl) (fun _ h => by cases h) scalarsPlacesUpto_row_tie rfl ⟨rfl, rfl⟩ (by kernel_rfl) rfl scalarsPlaces_plain (by kernel_rfl)
end Go.Proofs.YtdnelmbihblakaaDoor
