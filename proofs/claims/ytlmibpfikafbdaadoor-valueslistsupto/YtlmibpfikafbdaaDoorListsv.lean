/- Of all lists of Plains within the bound vellumlaw02.ValuesLists answers true: the walk. -/
import Derived.Test.YtlmibpfikafbdaaDoorRy
import Derived.Test.YtlmibpfikafbdaaDoorVlist
import Derived.Test.YtlmibpfikafbdaaDoorLw
import Derived.Deep.DeepCutAuto
namespace Go.Proofs.YtlmibpfikafbdaaDoor
open Go Go.RowKit Go.Lib
set_option linter.unusedVariables false

set_option maxHeartbeats 10000000 in
set_option maxRecDepth 100000 in
theorem lists_good {I : List Nat} {a : Nat → Addr} (v : Value) (ps : List P3) (w : World) (hI : ∀ i ∈ [0, 3, 4, 9], i ∈ I) (hS : Std I a w) (hN : Sent a w) (hT : Strc w) (hv : RowP w v ps) (hv0 : ∀ m c, v = .slice none m c → c = 0) (hl : ps.length ≤ 1048576) (hs : ∀ q ∈ ps, q.2.2.size ≤ 1048576) (hgd : ∀ q ∈ ps, chkP q = 0) :
    Calls Tryd.prog 5 #[v] w fun r w' => r = .returned (.bool true) ∧ Below w.heap.size w w' := by
  have cF := fixed_any w hI hS hT
  obtain ⟨n, hn⟩ : ∃ n, ps.length = n := ⟨_, rfl⟩
  obtain ⟨p, cap, rfl, hc⟩ := hv.ex
  rw [hn] at hl ⊢
  go_enter Tryd.func5, Tryd.ntmps5
  go_wp2_with fail
  refine cF.mono ?_; rintro r w1 ⟨rfl, b1⟩
  have hp : p = none → n = 0 ∧ cap = 0 := fun h => by
    subst h
    refine ⟨?_, hv0 _ _ rfl⟩
    cases h : ps with
    | nil => rw [← hn, h]; rfl
    | cons q r => obtain ⟨b, off, h2, _⟩ := hc 0 q (by rw [h]; rfl); cases h2
  have HC1 : ∀ W, Below w.heap.size w W → ∀ ad, p = some ad → ∀ j u, (cellsP ps)[j]? = some u → W.cell? (ad.add j) = some u := fun W hW ad had j u hu => by
    obtain ⟨i, q, hq, hh⟩ := cellsP_inv ps j u hu
    obtain ⟨b, off, h2, c0, c1, c2⟩ := hc i q hq
    obtain rfl : ad = ⟨b, off, none⟩ := Option.some.inj (had.symm.trans h2)
    rw [Addr.add_lit]
    rcases hh with ⟨rfl, rfl⟩ | ⟨rfl, rfl⟩ | ⟨rfl, rfl⟩
    · rw [hW.cell (lt_of_cell c0)]; exact c0
    · rw [← Nat.add_assoc, hW.cell (lt_of_cell c1)]; exact c1
    · rw [← Nat.add_assoc, hW.cell (lt_of_cell c2)]; exact c2
  have HN : Hid (ps.length = n) := hn
  go_wp2_with (first
    | (at_make; refine wpList_make_plain _ rfl _ _ rfl w.heap.size .i64 .i64 _ (n + 1) rfl rfl (by omega) (by omega) b1.size ?_; intro v0 w2 hown hgr; have b2 : Below w.heap.size w w2 := b1.grown hgr b1.size (fun k hk => by cases hk); have ho0 := (fun k hk => (owns_block hown k hk).1 : ∀ k, v0.ownBlock = some k → w.heap.size ≤ k); clear hgr)
    | (at_builtin; refine wpList_append_plain rfl (.tmp 23) (.tmp 24) rfl w.heap.size v0 0 [] rfl hown p n cap (cellsP ps) rfl hp (by rw [cellsP_len, HN.out]) (HC1 _ b2) (cellsP_one ps) (by omega) b2.size ?_; intro v5 w5 own5 gr5; have b5 : Below w.heap.size w w5 := b2.grown gr5 b2.size ho0; rw [List.nil_append, Nat.zero_add] at own5; simp only [Act.put, List.setIfInBounds_toArray, List.set_cons_succ, List.set_cons_zero]; clear hown gr5 ho0 b2; have ho5 := (fun k hk => (owns_block own5 k hk).1 : ∀ k, v5.ownBlock = some k → w.heap.size ≤ k); have own6 := owns_below own5 ((Below.refl _ _).alloc (Nat.le_refl _) (.cells #[.int .i64 9, .int .i64 0, .string ⟨#[]⟩] 23)); have b6 := b5.alloc b5.size (.cells #[.int .i64 9, .int .i64 0, .string ⟨#[]⟩] 23))
    | (at_builtin; refine wpList_append_plain rfl (.tmp 25) (.tmp 27) rfl w.heap.size v5 n (cellsP ps) rfl own6 (some ⟨w5.heap.size, 0, none⟩) 1 1 (cellsP [(9, 0, ⟨#[]⟩)]) rfl (fun h => by cases h) rfl (fun ad had j u hu => by (have e : ad = ⟨w5.heap.size, 0, none⟩ := (Option.some.inj had).symm); subst e; rw [Addr.add_lit]; (match j, hu with | 0, hu => (simp [cellsP] at hu; subst hu; simp) | 1, hu => (simp [cellsP] at hu; subst hu; simp) | 2, hu => (simp [cellsP] at hu; subst hu; simp) | j + 3, hu => simp [cellsP] at hu)) (cellsP_one _) (by omega) b6.size ?_; intro v7 w7 own7 gr7; have b7 : Below w.heap.size w w7 := b6.grown gr7 b6.size ho5; rw [← cellsP_append] at own7; clear own6 gr7 ho5 b6 own5 b5; obtain ⟨g, cap7, rfl, hBg, hcn, hcm, hin⟩ := own_inrow own7 (by omega); have hcI : (n : Int) ≤ cap7 := (by omega)))
  have hrow : RowP w7 (.slice (some ⟨g, 0, none⟩) n cap7) ps := by
    have := (inrow_left hin).rowP cap7
    rwa [HN.out] at this
  have hI' : ∀ i ∈ [0, 4, 9], i ∈ I := fun i hi => hI i (by simp at hi ⊢; omega)
  have cL := fun W (hW : Below w7.heap.size w7 W) => list_gen (.slice (some ⟨g, 0, none⟩) n cap7) ps n W hI' ((hS.below b7).below hW) (hrow.below hW) (fun q hq => by have := hs q hq; omega) (by omega) (by omega) (fun j q _ hq => hgd q (List.mem_of_getElem? hq)) 0 (fun q hq => by rw [List.getElem?_eq_none (by omega)] at hq; cases hq)
  refine (cL _ (Below.refl _ _)).mono ?_
  rintro r w8 ⟨bb8, hl8, _⟩
  obtain ⟨va, rfl, owna⟩ := hl8 HN.out.symm
  clear hl8
  go_wp2_with fail
  refine (cL _ bb8).mono ?_
  rintro r w9 ⟨bb9, hl9, _⟩
  obtain ⟨vb, rfl, ownb⟩ := hl9 HN.out.symm
  clear hl9 cL
  have owna9 := owns_below owna bb9
  have hla : ∀ k, va.ownBlock = some k → k < w8.heap.size := fun k hk => (owna.lt k hk).2
  have hz7 : w.heap.size ≤ w7.heap.size := b7.size
  have hz78 : w7.heap.size ≤ w8.heap.size := bb8.size
  have bb79 : Below w7.heap.size w7 w9 := bb8.trans (bb9.mono bb8.size)
  have own79 := owns_below own7 bb79
  have b9 : Below w.heap.size w w9 := b7.trans (bb79.mono b7.size)
  clear own7 owna
  go_wp2_with fail
  rw [HN.out] at owna9 ownb
  obtain ⟨pa, ca, rfl⟩ := own_slice owna9
  obtain ⟨pb, cb, rfl⟩ := own_slice ownb
  have cC := fun (q : P3) (hq : q ∈ ps) W (hW : Below w9.heap.size w9 W) => from_below hW (ref_chk q.1 q.2.1 q.2.2 W (by have := hs q hq; omega))
  have cN : ∀ W, Below w9.heap.size w9 W → Calls Tryd.prog 12 #[.nilIface] W fun r w' => r = .returned (.int .i64 0) ∧ Below w9.heap.size w9 w' := fun W hW => (num_nil W).mono fun r w' ⟨h1, h2⟩ => ⟨h1, by rw [h2]; exact hW⟩
  have HG : Hid (∀ q ∈ ps, chkP q = 0) := hgd
  have HP : Hid (p = none → n = 0 ∧ cap = 0) := hp
  have HC : Hid _ := hc
  have HS : Hid _ := hs
  have HI : Hid _ := hin
  have HCC : Hid _ := cC
  have HOA : Hid _ := owna9
  have HOB : Hid _ := ownb
  have HOI : Hid _ := own79
  clear hgd hp hc hs hin cC owna9 ownb own79 hv hv0 cF hrow HC1 hI hI' hS hN hT bb8 bb9 hn b1 b7
  go_loopw [10, 11, 12] (fun x e i wr => ∃ (k : Nat) (z : Int), k ≤ n ∧ x = .int .i64 z ∧ e = .int .i64 0 ∧ i = .int .i64 k ∧ Below w9.heap.size w9 wr) (fun _ _ i _ => n - (RowKit.intOf i).toNat)
  case atStart => exact ⟨0, 0, Nat.zero_le _, rfl, rfl, rfl, Below.refl _ _⟩
  case round =>
    obtain ⟨k, z, hk, rfl, rfl, rfl, hbw⟩ := hrel
    by_cases hlt : k < n
    · have hltI : (k : Int) < n := by omega
      obtain ⟨q, hq⟩ : ∃ q, ps[k]? = some q := ⟨_, List.getElem?_eq_getElem (by rw [HN.out]; exact hlt)⟩
      obtain ⟨b, off, rfl, c0, c1, c2⟩ := HC.out k q hq
      have bw := b9.trans (hbw.mono b9.size)
      have d0 : wr.cell? ⟨b, off + k * 3, none⟩ = _ := (bw.cell (lt_of_cell c0)).trans c0
      have d1 : wr.cell? ⟨b, off + k * 3 + 1, none⟩ = _ := (bw.cell (lt_of_cell c1)).trans c1
      have d2 : wr.cell? ⟨b, off + k * 3 + 2, none⟩ = _ := (bw.cell (lt_of_cell c2)).trans c2
      have cC := HCC.out q (List.mem_of_getElem? hq) _ hbw
      rw [show chk q.1 q.2.1 q.2.2 = 0 from HG.out q (List.mem_of_getElem? hq)] at cC
      clear c0 c1 c2 hq
      obtain ⟨x, y, t⟩ := q
      go_wp2_with fail
      refine cC.mono ?_; rintro r w3 ⟨rfl, hb3⟩
      go_wp2
      go_roundw
      case rel => exact ⟨k + 1, _, by omega, rfl, rfl, by go_num, hb3⟩
      case measure => simp [RowKit.intOf]; omega
    · have hltI : ¬ (k : Int) < n := by omega
      obtain rfl : n = k := by omega
      go_wp2_with fail
      refine (cN _ hbw).mono ?_; rintro r w3 ⟨rfl, b3⟩
      go_wp2_with fail
      refine (cN _ b3).mono ?_; rintro r w4 ⟨rfl, b4⟩
      go_wp2_with fail
      refine (cN _ b4).mono ?_; rintro r w5' ⟨rfl, b5⟩
      have bw7 : Below w7.heap.size w7 w5' := bb79.trans (b5.mono bb79.size)
      have hL := inrow_last (InRow.below HI.out bw7) 0 (9, 0, ⟨#[]⟩) rfl
      simp only [Nat.zero_add, Nat.zero_mul, Nat.add_zero, HN.out] at hL
      obtain ⟨q0, q1, q2⟩ := hL
      have hz75 : w7.heap.size ≤ w5'.heap.size := bw7.size
      have hnI : (n : Int) < n + 1 := by omega
      have hnn : n < n + 1 := by omega
      have oA := owns_below HOA.out b5
      have oB := owns_below HOB.out b5
      have oI := owns_below HOI.out b5
      have bW := b9.trans (b5.mono b9.size)
      have hgo : g < w7.heap.size := (lt_of_cell ((InRow.below HI.out (Below.refl _ _)) n (9, 0, ⟨#[]⟩) (by rw [← HN.out]; simp)).1)
      have hOO : Hid (w5'.ownsRow w7.heap.size 27 1 (.slice pa n ca) n (ps.map valP) ∧ w5'.ownsRow w8.heap.size 27 1 (.slice pb n cb) n (ps.map valP) ∧ w5'.ownsRow w.heap.size 23 3 (.slice (some ⟨g, 0, none⟩) (n + 1) cap7) (n + 1) (cellsP (ps ++ [(9, 0, ⟨#[]⟩)]))) := ⟨oA, oB, oI⟩
      clear b3 b4 hbw cN oA oB oI HOA HOB HOI HCC b5 b9 bb79 bw7 hcm
      go_wp2_with fail
      go_loopw [121] (fun i wr => ∃ k : Nat, k ≤ n ∧ i = .int .i64 k ∧ (∃ xa, wr.ownsRow w7.heap.size 27 1 (.slice pa n ca) n xa ∧ ∀ j, k ≤ j → xa[j]? = (ps.map valP)[j]?) ∧ wr.ownsRow w8.heap.size 27 1 (.slice pb n cb) n (ps.map valP) ∧ wr.ownsRow w.heap.size 23 3 (.slice (some ⟨g, 0, none⟩) (n + 1) cap7) (n + 1) (cellsP (ps ++ [(9, 0, ⟨#[]⟩)])) ∧ Below w.heap.size w wr ∧ w7.heap.size ≤ wr.heap.size) (fun i _ => n - (RowKit.intOf i).toNat)
      case atStart => exact ⟨0, Nat.zero_le _, rfl, ⟨_, hOO.out.1, fun _ _ => rfl⟩, hOO.out.2.1, hOO.out.2.2, bW, hz75⟩
      case round =>
        obtain ⟨k, hk, rfl, ⟨xa, oA, hxa⟩, oB, oI, bW, hz7r⟩ := hrel
        by_cases hlt : k < n
        · have hltI : (k : Int) < n := by omega
          have hlt1 : (k : Int) < n + 1 := by omega
          obtain ⟨q, hq⟩ : ∃ q, ps[k]? = some q := ⟨_, List.getElem?_eq_getElem (by rw [HN.out]; exact hlt)⟩
          obtain ⟨b, off, rfl, c0, c1, c2⟩ := HC.out k q hq
          have d0 : wr.cell? ⟨b, off + k * 3, none⟩ = _ := (bW.cell (lt_of_cell c0)).trans c0
          have d1 : wr.cell? ⟨b, off + k * 3 + 1, none⟩ = _ := (bW.cell (lt_of_cell c1)).trans c1
          have d2 : wr.cell? ⟨b, off + k * 3 + 2, none⟩ = _ := (bW.cell (lt_of_cell c2)).trans c2
          clear c0 c1 c2
          have hqi : (ps ++ [((9 : Int), (0 : Int), (⟨#[]⟩ : ByteArray))])[k]? = some q := by rw [List.getElem?_append_left (by rw [HN.out]; exact hlt)]; exact hq
          obtain ⟨e0, e1, e2⟩ := own_in oI k q hqi
          simp only [Nat.zero_add] at e0 e1 e2
          obtain ⟨ga, x, hpa, hga, hga2, hx, ca0, cf0⟩ := own_at oA k hlt
          obtain ⟨gb, y, hpb, hgb, hgb2, hy, cb0, _⟩ := own_at oB k hlt
          have hmq : (ps.map valP)[k]? = some (valP q) := by rw [List.getElem?_map, hq]; rfl
          obtain rfl : x = valP q := Option.some.inj (hx.symm.trans ((hxa k (Nat.le_refl _)).trans hmq))
          obtain rfl : y = valP q := Option.some.inj (hy.symm.trans hmq)
          have hgq : chkP q = 0 := HG.out q (List.mem_of_getElem? hq)
          subst hpa hpb
          clear hx hy hmq hqi hq
          obtain ⟨qk, qn, qt⟩ := q
          obtain ⟨VV, hVV⟩ : ∃ VV, valP (qk, qn, qt) = VV := ⟨_, rfl⟩
          rw [hVV] at ca0 cb0
          have ha3 : Hid _ := oA
          have hxa' : Hid _ := hxa
          have hb3 : Hid _ := oB
          have hi3 : Hid _ := oI
          clear oA oB oI hxa hOO
          rcases good_cases hgq with ⟨h1, h2, h3⟩ | ⟨h1, h2, h3⟩ | ⟨h1, h2, h3⟩ | ⟨h1, h3⟩ | ⟨h1, h2, _⟩
          · simp at h1 h2 h3; subst h1 h2 h3
            simp [valOf] at hVV
            subst hVV
            clear hgq
            have bR := Below.refl wr.heap.size wr
            go_wp2_with fail
            go_region_held3 (fun w' => (w'.cell? ⟨g, k * 3, none⟩ = some (.int .i64 0) ∧ w'.cell? ⟨g, k * 3 + 1, none⟩ = some (.int .i64 0) ∧ w'.cell? ⟨g, k * 3 + 2, none⟩ = some (.string ⟨#[]⟩) ∧ w'.cell? ⟨b, off + k * 3, none⟩ = some (.int .i64 0) ∧ w'.cell? ⟨b, off + k * 3 + 1, none⟩ = some (.int .i64 0) ∧ w'.cell? ⟨b, off + k * 3 + 2, none⟩ = some (.string ⟨#[]⟩) ∧ w'.cell? ⟨ga, k, none⟩ = some (.iface 52 (.agg #[])) ∧ w'.cell? ⟨gb, k, none⟩ = some (.iface 52 (.agg #[]))) ∧ Below wr.heap.size wr w')
              (exact ⟨by first | (with_reducible assumption) | (simp [*]; done), by first | (with_reducible assumption) | exact bR.drew⟩)
              (first
                | (go_at_call 104; refine (from_below (w := wr) ?_ (plain_n _)).mono ?_; (· first | assumption | (apply And.right; assumption)); rintro r w5 ⟨rfl, b5⟩; have fz := (b5.frozen (lt_of_cell ca0)).trans cf0; have mm := And.intro ((b5.cell (lt_of_cell e0)).trans e0) (And.intro ((b5.cell (lt_of_cell e1)).trans e1) (And.intro ((b5.cell (lt_of_cell e2)).trans e2) (And.intro ((b5.cell (lt_of_cell d0)).trans d0) (And.intro ((b5.cell (lt_of_cell d1)).trans d1) (And.intro ((b5.cell (lt_of_cell d2)).trans d2) (And.intro ((b5.cell (lt_of_cell ca0)).trans ca0) ((b5.cell (lt_of_cell cb0)).trans cb0))))))); obtain ⟨m0, m1, m2, m3, m4, m5, m6, m7⟩ := mm))
            go_wp2_with fail
            refine ⟨⟨k + 1, by omega, by go_num, ⟨_, ((owns_below ha3.out b5).stored k _).1, fun j hj => ?_⟩, ownsRow_setCell_other (owns_below hb3.out b5) ?_ _, ownsRow_setCell_other (owns_below hi3.out b5) ?_ _, (bW.trans (b5.mono bW.size)).setCell (by show _ ≤ ga; omega) _, Nat.le_trans hz7r (Nat.le_trans b5.size ((owns_below ha3.out b5).stored k _).2.size)⟩, ?_⟩
            · rw [List.getElem?_set_ne (by omega)]; exact hxa'.out j (by omega)
            · intro he; have : gb = ga := Option.some.inj he; have := hla ga rfl; omega
            · intro he; have : g = ga := Option.some.inj he; omega
            · simp [RowKit.intOf]; omega
          · simp at h1 h2 h3; subst h1 h2 h3
            simp [valOf] at hVV
            subst hVV
            clear hgq
            have bR := Below.refl wr.heap.size wr
            go_wp2_with fail
            go_region_held3 (fun w' => (w'.cell? ⟨g, k * 3, none⟩ = some (.int .i64 1) ∧ w'.cell? ⟨g, k * 3 + 1, none⟩ = some (.int .i64 0) ∧ w'.cell? ⟨g, k * 3 + 2, none⟩ = some (.string ⟨#[]⟩) ∧ w'.cell? ⟨b, off + k * 3, none⟩ = some (.int .i64 1) ∧ w'.cell? ⟨b, off + k * 3 + 1, none⟩ = some (.int .i64 0) ∧ w'.cell? ⟨b, off + k * 3 + 2, none⟩ = some (.string ⟨#[]⟩) ∧ w'.cell? ⟨ga, k, none⟩ = some (.iface 54 (.bool false)) ∧ w'.cell? ⟨gb, k, none⟩ = some (.iface 54 (.bool false))) ∧ Below wr.heap.size wr w')
              (exact ⟨by first | (with_reducible assumption) | (simp [*]; done), by first | (with_reducible assumption) | exact bR.drew⟩)
              (first
                | (go_at_call 106; refine (from_below (w := wr) ?_ (plain_f _ _)).mono ?_; (· first | assumption | (apply And.right; assumption)); rintro r w5 ⟨rfl, b5⟩; have fz := (b5.frozen (lt_of_cell ca0)).trans cf0; have mm := And.intro ((b5.cell (lt_of_cell e0)).trans e0) (And.intro ((b5.cell (lt_of_cell e1)).trans e1) (And.intro ((b5.cell (lt_of_cell e2)).trans e2) (And.intro ((b5.cell (lt_of_cell d0)).trans d0) (And.intro ((b5.cell (lt_of_cell d1)).trans d1) (And.intro ((b5.cell (lt_of_cell d2)).trans d2) (And.intro ((b5.cell (lt_of_cell ca0)).trans ca0) ((b5.cell (lt_of_cell cb0)).trans cb0))))))); obtain ⟨m0, m1, m2, m3, m4, m5, m6, m7⟩ := mm))
            go_wp2_with fail
            refine ⟨⟨k + 1, by omega, by go_num, ⟨_, ((owns_below ha3.out b5).stored k _).1, fun j hj => ?_⟩, ownsRow_setCell_other (owns_below hb3.out b5) ?_ _, ownsRow_setCell_other (owns_below hi3.out b5) ?_ _, (bW.trans (b5.mono bW.size)).setCell (by show _ ≤ ga; omega) _, Nat.le_trans hz7r (Nat.le_trans b5.size ((owns_below ha3.out b5).stored k _).2.size)⟩, ?_⟩
            · rw [List.getElem?_set_ne (by omega)]; exact hxa'.out j (by omega)
            · intro he; have : gb = ga := Option.some.inj he; have := hla ga rfl; omega
            · intro he; have : g = ga := Option.some.inj he; omega
            · simp [RowKit.intOf]; omega
          · simp at h1 h2 h3; subst h1 h2 h3
            simp [valOf] at hVV
            subst hVV
            clear hgq
            have bR := Below.refl wr.heap.size wr
            go_wp2_with fail
            go_region_held3 (fun w' => (w'.cell? ⟨g, k * 3, none⟩ = some (.int .i64 1) ∧ w'.cell? ⟨g, k * 3 + 1, none⟩ = some (.int .i64 1) ∧ w'.cell? ⟨g, k * 3 + 2, none⟩ = some (.string ⟨#[]⟩) ∧ w'.cell? ⟨b, off + k * 3, none⟩ = some (.int .i64 1) ∧ w'.cell? ⟨b, off + k * 3 + 1, none⟩ = some (.int .i64 1) ∧ w'.cell? ⟨b, off + k * 3 + 2, none⟩ = some (.string ⟨#[]⟩) ∧ w'.cell? ⟨ga, k, none⟩ = some (.iface 54 (.bool true)) ∧ w'.cell? ⟨gb, k, none⟩ = some (.iface 54 (.bool true))) ∧ Below wr.heap.size wr w')
              (exact ⟨by first | (with_reducible assumption) | (simp [*]; done), by first | (with_reducible assumption) | exact bR.drew⟩)
              (first
                | (go_at_call 106; refine (from_below (w := wr) ?_ (plain_f _ _)).mono ?_; (· first | assumption | (apply And.right; assumption)); rintro r w5 ⟨rfl, b5⟩; have fz := (b5.frozen (lt_of_cell ca0)).trans cf0; have mm := And.intro ((b5.cell (lt_of_cell e0)).trans e0) (And.intro ((b5.cell (lt_of_cell e1)).trans e1) (And.intro ((b5.cell (lt_of_cell e2)).trans e2) (And.intro ((b5.cell (lt_of_cell d0)).trans d0) (And.intro ((b5.cell (lt_of_cell d1)).trans d1) (And.intro ((b5.cell (lt_of_cell d2)).trans d2) (And.intro ((b5.cell (lt_of_cell ca0)).trans ca0) ((b5.cell (lt_of_cell cb0)).trans cb0))))))); obtain ⟨m0, m1, m2, m3, m4, m5, m6, m7⟩ := mm))
            go_wp2_with fail
            refine ⟨⟨k + 1, by omega, by go_num, ⟨_, ((owns_below ha3.out b5).stored k _).1, fun j hj => ?_⟩, ownsRow_setCell_other (owns_below hb3.out b5) ?_ _, ownsRow_setCell_other (owns_below hi3.out b5) ?_ _, (bW.trans (b5.mono bW.size)).setCell (by show _ ≤ ga; omega) _, Nat.le_trans hz7r (Nat.le_trans b5.size ((owns_below ha3.out b5).stored k _).2.size)⟩, ?_⟩
            · rw [List.getElem?_set_ne (by omega)]; exact hxa'.out j (by omega)
            · intro he; have : gb = ga := Option.some.inj he; have := hla ga rfl; omega
            · intro he; have : g = ga := Option.some.inj he; omega
            · simp [RowKit.intOf]; omega
          · simp at h1 h3; subst h1 h3
            simp [valOf] at hVV
            subst hVV
            clear hgq
            have bR := Below.refl wr.heap.size wr
            go_wp2_with fail
            go_region_held3 (fun w' => (w'.cell? ⟨g, k * 3, none⟩ = some (.int .i64 2) ∧ w'.cell? ⟨g, k * 3 + 1, none⟩ = some (.int .i64 qn) ∧ w'.cell? ⟨g, k * 3 + 2, none⟩ = some (.string ⟨#[]⟩) ∧ w'.cell? ⟨b, off + k * 3, none⟩ = some (.int .i64 2) ∧ w'.cell? ⟨b, off + k * 3 + 1, none⟩ = some (.int .i64 qn) ∧ w'.cell? ⟨b, off + k * 3 + 2, none⟩ = some (.string ⟨#[]⟩) ∧ w'.cell? ⟨ga, k, none⟩ = some (.iface 50 (.int .i64 qn)) ∧ w'.cell? ⟨gb, k, none⟩ = some (.iface 50 (.int .i64 qn))) ∧ Below wr.heap.size wr w')
              (exact ⟨by first | (with_reducible assumption) | (simp [*]; done), by first | (with_reducible assumption) | exact bR.drew⟩)
              (first
                | (go_at_call 102; refine (from_below (w := wr) ?_ (plain_d _ _)).mono ?_; (· first | assumption | (apply And.right; assumption)); rintro r w5 ⟨rfl, b5⟩; have fz := (b5.frozen (lt_of_cell ca0)).trans cf0; have mm := And.intro ((b5.cell (lt_of_cell e0)).trans e0) (And.intro ((b5.cell (lt_of_cell e1)).trans e1) (And.intro ((b5.cell (lt_of_cell e2)).trans e2) (And.intro ((b5.cell (lt_of_cell d0)).trans d0) (And.intro ((b5.cell (lt_of_cell d1)).trans d1) (And.intro ((b5.cell (lt_of_cell d2)).trans d2) (And.intro ((b5.cell (lt_of_cell ca0)).trans ca0) ((b5.cell (lt_of_cell cb0)).trans cb0))))))); obtain ⟨m0, m1, m2, m3, m4, m5, m6, m7⟩ := mm))
            go_wp2_with fail
            refine ⟨⟨k + 1, by omega, by go_num, ⟨_, ((owns_below ha3.out b5).stored k _).1, fun j hj => ?_⟩, ownsRow_setCell_other (owns_below hb3.out b5) ?_ _, ownsRow_setCell_other (owns_below hi3.out b5) ?_ _, (bW.trans (b5.mono bW.size)).setCell (by show _ ≤ ga; omega) _, Nat.le_trans hz7r (Nat.le_trans b5.size ((owns_below ha3.out b5).stored k _).2.size)⟩, ?_⟩
            · rw [List.getElem?_set_ne (by omega)]; exact hxa'.out j (by omega)
            · intro he; have : gb = ga := Option.some.inj he; have := hla ga rfl; omega
            · intro he; have : g = ga := Option.some.inj he; omega
            · simp [RowKit.intOf]; omega
          · simp at h1 h2; subst h1 h2
            simp [valOf] at hVV
            subst hVV
            clear hgq
            have bR := Below.refl wr.heap.size wr
            go_wp2_with fail
            go_region_held3 (fun w' => (w'.cell? ⟨g, k * 3, none⟩ = some (.int .i64 3) ∧ w'.cell? ⟨g, k * 3 + 1, none⟩ = some (.int .i64 0) ∧ w'.cell? ⟨g, k * 3 + 2, none⟩ = some (.string qt) ∧ w'.cell? ⟨b, off + k * 3, none⟩ = some (.int .i64 3) ∧ w'.cell? ⟨b, off + k * 3 + 1, none⟩ = some (.int .i64 0) ∧ w'.cell? ⟨b, off + k * 3 + 2, none⟩ = some (.string qt) ∧ w'.cell? ⟨ga, k, none⟩ = some (.iface 55 (.string qt)) ∧ w'.cell? ⟨gb, k, none⟩ = some (.iface 55 (.string qt))) ∧ Below wr.heap.size wr w')
              (exact ⟨by first | (with_reducible assumption) | (simp [*]; done), by first | (with_reducible assumption) | exact bR.drew⟩)
              (first
                | (go_at_call 108; refine (from_below (w := wr) ?_ (plain_t _ _)).mono ?_; (· first | assumption | (apply And.right; assumption)); rintro r w5 ⟨rfl, b5⟩; have fz := (b5.frozen (lt_of_cell ca0)).trans cf0; have mm := And.intro ((b5.cell (lt_of_cell e0)).trans e0) (And.intro ((b5.cell (lt_of_cell e1)).trans e1) (And.intro ((b5.cell (lt_of_cell e2)).trans e2) (And.intro ((b5.cell (lt_of_cell d0)).trans d0) (And.intro ((b5.cell (lt_of_cell d1)).trans d1) (And.intro ((b5.cell (lt_of_cell d2)).trans d2) (And.intro ((b5.cell (lt_of_cell ca0)).trans ca0) ((b5.cell (lt_of_cell cb0)).trans cb0))))))); obtain ⟨m0, m1, m2, m3, m4, m5, m6, m7⟩ := mm))
            go_wp2_with fail
            refine ⟨⟨k + 1, by omega, by go_num, ⟨_, ((owns_below ha3.out b5).stored k _).1, fun j hj => ?_⟩, ownsRow_setCell_other (owns_below hb3.out b5) ?_ _, ownsRow_setCell_other (owns_below hi3.out b5) ?_ _, (bW.trans (b5.mono bW.size)).setCell (by show _ ≤ ga; omega) _, Nat.le_trans hz7r (Nat.le_trans b5.size ((owns_below ha3.out b5).stored k _).2.size)⟩, ?_⟩
            · rw [List.getElem?_set_ne (by omega)]; exact hxa'.out j (by omega)
            · intro he; have : gb = ga := Option.some.inj he; have := hla ga rfl; omega
            · intro he; have : g = ga := Option.some.inj he; omega
            · simp [RowKit.intOf]; omega
        · obtain rfl : n = k := by omega
          have hltI : ¬ (n : Int) < n := by omega
          have hap : Apart (.slice pa n ca) g (.slice pb n cb) := fun k hk => by
            have h1 := (owns_block oA k hk).1
            have h2 := hla k hk
            exact ⟨by omega, fun k' hk' => by have := (owns_block oB k' hk').1; omega⟩
          have hoA : Hid (wr.ownsRow w7.heap.size 27 1 (.slice pa n ca) n xa) := oA
          have hoB : Hid (wr.ownsRow w8.heap.size 27 1 (.slice pb n cb) n (ps.map valP)) := oB
          have hoI : Hid (wr.ownsRow w.heap.size 23 3 (.slice (some ⟨g, 0, none⟩) (n + 1) cap7) (n + 1) (cellsP (ps ++ [(9, 0, ⟨#[]⟩)]))) := oI
          have hAp : Hid (Apart (.slice pa n ca) g (.slice pb n cb)) := hap
          clear oA oB oI hap hxa hOO
          go_wp2_with fail
          go_loopw [14, 15] (fun v i wr => ∃ j : Nat, j ≤ 30 ∧ i = .int .i64 j ∧ (∃ xs, wr.ownsRow w7.heap.size 27 1 v (n + j) xs) ∧ Apart v g (.slice pb n cb) ∧ wr.ownsRow w8.heap.size 27 1 (.slice pb n cb) n (ps.map valP) ∧ wr.ownsRow w.heap.size 23 3 (.slice (some ⟨g, 0, none⟩) (n + 1) cap7) (n + 1) (cellsP (ps ++ [(9, 0, ⟨#[]⟩)])) ∧ Below w.heap.size w wr ∧ w7.heap.size ≤ wr.heap.size) (fun _ i _ => 30 - (RowKit.intOf i).toNat)
          case atStart => exact ⟨0, Nat.zero_le _, rfl, ⟨_, hoA.out⟩, hAp.out, hoB.out, hoI.out, bW, hz7r⟩
          case round =>
            obtain ⟨j, hj, rfl, ⟨xs, oG⟩, hap, oB, oI, bQ, hz7q⟩ := hrel
            by_cases hlt : j < 30
            · have hltI : (j : Int) < 30 := by omega
              have oG1 := owns_below oG ((Below.refl _ _).alloc (Nat.le_refl _) (.cells #[.iface 52 (.agg #[])] 27))
              have bQ1 := bQ.alloc bQ.size (.cells #[.iface 52 (.agg #[])] 27)
              have oB1 := owns_below oB ((Below.refl _ _).alloc (Nat.le_refl _) (.cells #[.iface 52 (.agg #[])] 27))
              have oI1 := owns_below oI ((Below.refl _ _).alloc (Nat.le_refl _) (.cells #[.iface 52 (.agg #[])] 27))
              have hz1 : wr.heap.size < (wr.alloc (.cells #[.iface 52 (.agg #[])] 27)).heap.size := by simp
              have hBlt := oB1.lt
              have hIlt := oI1.lt
              clear oG oB oI bQ
              go_wp2_with (at_builtin; refine wpList_append_val_at rfl (.tmp 169) (.tmp 172) rfl w7.heap.size u14 (n + j) xs rfl oG1 wr.heap.size 1 (.iface 52 (.agg #[])) rfl (by simp) rfl (by omega) (by omega) ?_; intro v' w' own' gr' hat'; simp only [Act.put, List.setIfInBounds_toArray, List.set_cons_succ, List.set_cons_zero])
              refine ⟨⟨j + 1, by omega, by go_num, ⟨_, own'⟩, ?_, oB1.kept gr' ?_, oI1.kept gr' ?_, bQ1.grown gr' bQ1.size (fun k hk => Nat.le_trans hz7 (owns_block oG1 k hk).1), ?_⟩, ?_⟩
              · intro k hk
                rcases hat' with h | h
                · rw [h] at hk; exact hap k hk
                · rw [h] at hk
                  have hk := Option.some.inj hk
                  exact ⟨by have := (hIlt g rfl).2; omega, fun k' hk' => by have := (hBlt k' hk').2; omega⟩
              · cases h : Value.ownBlock (.slice pb n cb) with
                | none => exact Or.inl rfl
                | some k' => exact Or.inr fun he => (hap k' he.symm).2 k' h rfl
              · exact Or.inr fun he => (hap g he.symm).1 rfl
              · have := gr'.size; omega
              · simp [RowKit.intOf]; omega
            · have hltI : ¬ (j : Int) < 30 := by omega
              have hoB : Hid (wr.ownsRow w8.heap.size 27 1 (.slice pb n cb) n (ps.map valP)) := oB
              have hoI : Hid (wr.ownsRow w.heap.size 23 3 (.slice (some ⟨g, 0, none⟩) (n + 1) cap7) (n + 1) (cellsP (ps ++ [(9, 0, ⟨#[]⟩)]))) := oI
              clear oG oB oI hap
              go_wp2_with fail
              go_loopw [176] (fun i wr => ∃ k : Nat, k ≤ n + 1 ∧ i = .int .i64 k ∧ (∃ xi, wr.ownsRow w.heap.size 23 3 (.slice (some ⟨g, 0, none⟩) (n + 1) cap7) (n + 1) xi) ∧ wr.ownsRow w8.heap.size 27 1 (.slice pb n cb) n (ps.map valP) ∧ Below w.heap.size w wr) (fun i _ => n + 1 - (RowKit.intOf i).toNat)
              case atStart => exact ⟨0, Nat.zero_le _, rfl, ⟨_, hoI.out⟩, hoB.out, bQ⟩
              case round =>
                obtain ⟨k, hk, rfl, ⟨xi, oI⟩, oB, bQ⟩ := hrel
                by_cases hlt : k < n + 1
                · have hltI : (k : Int) < n + 1 := by omega
                  have hlen := oI.1
                  have gc : ∀ r, r < 3 → ∃ u, wr.cell? ⟨g, k * 3 + r, none⟩ = some u := fun r hr => by
                    have hx : k * 3 + r < xi.length := by rw [hlen]; omega
                    have := oI.cells (g := g) rfl (k * 3 + r) _ (List.getElem?_eq_getElem hx)
                    rw [Addr.add_lit, Nat.zero_add] at this
                    exact ⟨_, this⟩
                  obtain ⟨u0, c0⟩ := gc 0 (by omega)
                  obtain ⟨u1, c1⟩ := gc 1 (by omega)
                  obtain ⟨u2, c2⟩ := gc 2 (by omega)
                  rw [Nat.add_zero] at c0
                  have f0 := oI.frozenAt (k * 3)
                  have f1 := oI.frozenAt (k * 3 + 1)
                  have f2 := oI.frozenAt (k * 3 + 2)
                  have hgB : Value.ownBlock (.slice pb n cb) ≠ some g := fun he => by have := (owns_block oB g he).1; omega
                  have t1 := (oI.stored (k * 3) (.int .i64 3)).1
                  have t2 := (t1.stored (k * 3 + 1) (.int .i64 0)).1
                  have t3 := (t2.stored (k * 3 + 2) (.string ⟨#[115, 112, 111, 105, 108, 116]⟩)).1
                  have s3 := ownsRow_setCell_other (a := ⟨g, k * 3 + 2, none⟩) (ownsRow_setCell_other (a := ⟨g, k * 3 + 1, none⟩) (ownsRow_setCell_other (a := ⟨g, k * 3, none⟩) oB hgB (.int .i64 3)) hgB (.int .i64 0)) hgB (.string ⟨#[115, 112, 111, 105, 108, 116]⟩)
                  have T3 : Hid _ := And.intro t3 s3
                  clear t1 t2 t3 s3
                  clear oI oB gc hlen
                  go_wp2_with fail
                  refine ⟨⟨k + 1, by omega, by go_num, ⟨_, T3.out.1⟩, T3.out.2, ((bQ.setCell hBg _).setCell hBg _).setCell hBg _⟩, ?_⟩
                  simp [RowKit.intOf]; omega
                · have hltI : ¬ (k : Int) < n + 1 := by omega
                  have hoB2 : Hid (wr.ownsRow w8.heap.size 27 1 (.slice pb n cb) n (ps.map valP)) := oB
                  clear oI oB
                  go_wp2_with fail
                  obtain ⟨wS, hwS⟩ : ∃ wS, wr = wS := ⟨_, rfl⟩
                  subst hwS
                  obtain ⟨wS, hwS⟩ : ∃ wS, wS = wr := ⟨_, rfl⟩
                  have bS0 : Below wS.heap.size wS wr := by rw [hwS]; exact Below.refl _ _
                  have bQS : Below w.heap.size w wS := by rw [hwS]; exact bQ
                  have hoBS : Hid (wS.ownsRow w8.heap.size 27 1 (.slice pb n cb) n (ps.map valP)) := by rw [hwS]; exact hoB2
                  clear hwS hoB2 bQ
                  go_loopw [186] (fun i wr => ∃ k : Nat, k ≤ n ∧ i = .int .i64 k ∧ Below wS.heap.size wS wr) (fun i _ => n - (RowKit.intOf i).toNat)
                  case atStart => exact ⟨0, Nat.zero_le _, rfl, bS0⟩
                  case round =>
                    obtain ⟨k, hk, rfl, bS⟩ := hrel
                    by_cases hlt : k < n
                    · have hltI : (k : Int) < n := by omega
                      obtain ⟨q, hq⟩ : ∃ q, ps[k]? = some q := ⟨_, List.getElem?_eq_getElem (by rw [HN.out]; exact hlt)⟩
                      obtain ⟨b, off, rfl, c0, c1, c2⟩ := HC.out k q hq
                      have bW' := bQS.trans (bS.mono bQS.size)
                      have d0 : wr.cell? ⟨b, off + k * 3, none⟩ = _ := (bW'.cell (lt_of_cell c0)).trans c0
                      have d1 : wr.cell? ⟨b, off + k * 3 + 1, none⟩ = _ := (bW'.cell (lt_of_cell c1)).trans c1
                      have d2 : wr.cell? ⟨b, off + k * 3 + 2, none⟩ = _ := (bW'.cell (lt_of_cell c2)).trans c2
                      clear c0 c1 c2
                      obtain ⟨gb, y, hpb, hgb, hgb2, hy, cbS, _⟩ := own_at hoBS.out k hlt
                      have cb0 : wr.cell? ⟨gb, k, none⟩ = some y := (bS.cell (lt_of_cell cbS)).trans cbS
                      have hmq : (ps.map valP)[k]? = some (valP q) := by rw [List.getElem?_map, hq]; rfl
                      obtain rfl : y = valP q := Option.some.inj (hy.symm.trans hmq)
                      have hgq : chkP q = 0 := HG.out q (List.mem_of_getElem? hq)
                      subst hpb
                      clear hy hmq hq cbS
                      obtain ⟨qk, qn, qt⟩ := q
                      obtain ⟨VV, hVV⟩ : ∃ VV, valP (qk, qn, qt) = VV := ⟨_, rfl⟩
                      rw [hVV] at cb0
                      rcases good_cases hgq with ⟨h1, h2, h3⟩ | ⟨h1, h2, h3⟩ | ⟨h1, h2, h3⟩ | ⟨h1, h3⟩ | ⟨h1, h2, _⟩
                      · simp at h1 h2 h3; subst h1 h2 h3
                        simp [valOf] at hVV
                        subst hVV
                        clear hgq
                        have bR := Below.refl wr.heap.size wr
                        go_wp2_with fail
                        go_region_held3 (fun w' => (w'.cell? ⟨b, off + k * 3, none⟩ = some (.int .i64 0) ∧ w'.cell? ⟨b, off + k * 3 + 1, none⟩ = some (.int .i64 0) ∧ w'.cell? ⟨b, off + k * 3 + 2, none⟩ = some (.string ⟨#[]⟩) ∧ w'.cell? ⟨gb, k, none⟩ = some (.iface 52 (.agg #[]))) ∧ Below wr.heap.size wr w')
                          (exact ⟨by first | (with_reducible assumption) | (simp [*]; done), by first | (with_reducible assumption) | exact bR.drew⟩)
                          (first
                            | (go_at_call 104; refine (from_below (w := wr) ?_ (plain_n _)).mono ?_; (· first | assumption | (apply And.right; assumption)); rintro r w5 ⟨rfl, b5⟩; have mm := And.intro ((b5.cell (lt_of_cell d0)).trans d0) (And.intro ((b5.cell (lt_of_cell d1)).trans d1) (And.intro ((b5.cell (lt_of_cell d2)).trans d2) ((b5.cell (lt_of_cell cb0)).trans cb0))); obtain ⟨m3, m4, m5, m7⟩ := mm))
                        go_wp2_with fail
                        refine ⟨⟨k + 1, by omega, by go_num, ?_⟩, ?_⟩
                        · refine bS.trans (Below.mono (B := wr.heap.size) ?_ bS.size)
                          first | assumption | (apply And.right; assumption)
                        · simp [RowKit.intOf]; omega
                      · simp at h1 h2 h3; subst h1 h2 h3
                        simp [valOf] at hVV
                        subst hVV
                        clear hgq
                        have bR := Below.refl wr.heap.size wr
                        go_wp2_with fail
                        go_region_held3 (fun w' => (w'.cell? ⟨b, off + k * 3, none⟩ = some (.int .i64 1) ∧ w'.cell? ⟨b, off + k * 3 + 1, none⟩ = some (.int .i64 0) ∧ w'.cell? ⟨b, off + k * 3 + 2, none⟩ = some (.string ⟨#[]⟩) ∧ w'.cell? ⟨gb, k, none⟩ = some (.iface 54 (.bool false))) ∧ Below wr.heap.size wr w')
                          (exact ⟨by first | (with_reducible assumption) | (simp [*]; done), by first | (with_reducible assumption) | exact bR.drew⟩)
                          (first
                            | (go_at_call 106; refine (from_below (w := wr) ?_ (plain_f _ _)).mono ?_; (· first | assumption | (apply And.right; assumption)); rintro r w5 ⟨rfl, b5⟩; have mm := And.intro ((b5.cell (lt_of_cell d0)).trans d0) (And.intro ((b5.cell (lt_of_cell d1)).trans d1) (And.intro ((b5.cell (lt_of_cell d2)).trans d2) ((b5.cell (lt_of_cell cb0)).trans cb0))); obtain ⟨m3, m4, m5, m7⟩ := mm))
                        go_wp2_with fail
                        refine ⟨⟨k + 1, by omega, by go_num, ?_⟩, ?_⟩
                        · refine bS.trans (Below.mono (B := wr.heap.size) ?_ bS.size)
                          first | assumption | (apply And.right; assumption)
                        · simp [RowKit.intOf]; omega
                      · simp at h1 h2 h3; subst h1 h2 h3
                        simp [valOf] at hVV
                        subst hVV
                        clear hgq
                        have bR := Below.refl wr.heap.size wr
                        go_wp2_with fail
                        go_region_held3 (fun w' => (w'.cell? ⟨b, off + k * 3, none⟩ = some (.int .i64 1) ∧ w'.cell? ⟨b, off + k * 3 + 1, none⟩ = some (.int .i64 1) ∧ w'.cell? ⟨b, off + k * 3 + 2, none⟩ = some (.string ⟨#[]⟩) ∧ w'.cell? ⟨gb, k, none⟩ = some (.iface 54 (.bool true))) ∧ Below wr.heap.size wr w')
                          (exact ⟨by first | (with_reducible assumption) | (simp [*]; done), by first | (with_reducible assumption) | exact bR.drew⟩)
                          (first
                            | (go_at_call 106; refine (from_below (w := wr) ?_ (plain_f _ _)).mono ?_; (· first | assumption | (apply And.right; assumption)); rintro r w5 ⟨rfl, b5⟩; have mm := And.intro ((b5.cell (lt_of_cell d0)).trans d0) (And.intro ((b5.cell (lt_of_cell d1)).trans d1) (And.intro ((b5.cell (lt_of_cell d2)).trans d2) ((b5.cell (lt_of_cell cb0)).trans cb0))); obtain ⟨m3, m4, m5, m7⟩ := mm))
                        go_wp2_with fail
                        refine ⟨⟨k + 1, by omega, by go_num, ?_⟩, ?_⟩
                        · refine bS.trans (Below.mono (B := wr.heap.size) ?_ bS.size)
                          first | assumption | (apply And.right; assumption)
                        · simp [RowKit.intOf]; omega
                      · simp at h1 h3; subst h1 h3
                        simp [valOf] at hVV
                        subst hVV
                        clear hgq
                        have bR := Below.refl wr.heap.size wr
                        go_wp2_with fail
                        go_region_held3 (fun w' => (w'.cell? ⟨b, off + k * 3, none⟩ = some (.int .i64 2) ∧ w'.cell? ⟨b, off + k * 3 + 1, none⟩ = some (.int .i64 qn) ∧ w'.cell? ⟨b, off + k * 3 + 2, none⟩ = some (.string ⟨#[]⟩) ∧ w'.cell? ⟨gb, k, none⟩ = some (.iface 50 (.int .i64 qn))) ∧ Below wr.heap.size wr w')
                          (exact ⟨by first | (with_reducible assumption) | (simp [*]; done), by first | (with_reducible assumption) | exact bR.drew⟩)
                          (first
                            | (go_at_call 102; refine (from_below (w := wr) ?_ (plain_d _ _)).mono ?_; (· first | assumption | (apply And.right; assumption)); rintro r w5 ⟨rfl, b5⟩; have mm := And.intro ((b5.cell (lt_of_cell d0)).trans d0) (And.intro ((b5.cell (lt_of_cell d1)).trans d1) (And.intro ((b5.cell (lt_of_cell d2)).trans d2) ((b5.cell (lt_of_cell cb0)).trans cb0))); obtain ⟨m3, m4, m5, m7⟩ := mm))
                        go_wp2_with fail
                        refine ⟨⟨k + 1, by omega, by go_num, ?_⟩, ?_⟩
                        · refine bS.trans (Below.mono (B := wr.heap.size) ?_ bS.size)
                          first | assumption | (apply And.right; assumption)
                        · simp [RowKit.intOf]; omega
                      · simp at h1 h2; subst h1 h2
                        simp [valOf] at hVV
                        subst hVV
                        clear hgq
                        have bR := Below.refl wr.heap.size wr
                        go_wp2_with fail
                        go_region_held3 (fun w' => (w'.cell? ⟨b, off + k * 3, none⟩ = some (.int .i64 3) ∧ w'.cell? ⟨b, off + k * 3 + 1, none⟩ = some (.int .i64 0) ∧ w'.cell? ⟨b, off + k * 3 + 2, none⟩ = some (.string qt) ∧ w'.cell? ⟨gb, k, none⟩ = some (.iface 55 (.string qt))) ∧ Below wr.heap.size wr w')
                          (exact ⟨by first | (with_reducible assumption) | (simp [*]; done), by first | (with_reducible assumption) | exact bR.drew⟩)
                          (first
                            | (go_at_call 108; refine (from_below (w := wr) ?_ (plain_t _ _)).mono ?_; (· first | assumption | (apply And.right; assumption)); rintro r w5 ⟨rfl, b5⟩; have mm := And.intro ((b5.cell (lt_of_cell d0)).trans d0) (And.intro ((b5.cell (lt_of_cell d1)).trans d1) (And.intro ((b5.cell (lt_of_cell d2)).trans d2) ((b5.cell (lt_of_cell cb0)).trans cb0))); obtain ⟨m3, m4, m5, m7⟩ := mm))
                        go_wp2_with fail
                        refine ⟨⟨k + 1, by omega, by go_num, ?_⟩, ?_⟩
                        · refine bS.trans (Below.mono (B := wr.heap.size) ?_ bS.size)
                          first | assumption | (apply And.right; assumption)
                        · simp [RowKit.intOf]; omega
                    · have hltI : ¬ (k : Int) < n := by omega
                      go_wp2
                      go_ret
                      exact ⟨rfl, bQS.trans (bS.mono bQS.size)⟩
end Go.Proofs.YtlmibpfikafbdaaDoor
