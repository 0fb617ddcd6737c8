/- Of all lists of Plains with a bad one among them vellumlaw02.ValuesLists answers true: the walk. -/
import Derived.Test.YtlmibpfikafbdaaDoorRy
import Derived.Test.YtlmibpfikafbdaaDoorVlist
import Derived.Test.YtlmibpfikafbdaaDoorLw
import Derived.Deep.DeepCutAuto
namespace Go.Proofs.YtlmibpfikafbdaaDoor
open Go Go.RowKit Go.Lib
set_option linter.unusedVariables false

set_option maxHeartbeats 10000000 in
set_option maxRecDepth 100000 in
theorem lists_bad {I : List Nat} {a : Nat → Addr} (v : Value) (ps : List P3) (w : World) (hI : ∀ i ∈ [0, 3, 4, 9], i ∈ I) (hS : Std I a w) (hN : Sent a w) (hT : Strc w) (hv : RowP w v ps) (hv0 : ∀ m c, v = .slice none m c → c = 0) (hl : ps.length ≤ 1048576) (hs : ∀ q ∈ ps, q.2.2.size ≤ 1048576) (m e : Nat) (hm : m < ps.length) (hgd : ∀ (j : Nat) q, j < m → ps[j]? = some q → chkP q = 0) (hbd : ∀ q, ps[m]? = some q → chkP q = e + 1) (he : e + 1 ≤ 19) :
    Calls Tryd.prog 5 #[v] w fun r w' => r = .returned (.bool true) ∧ Below w.heap.size w w' := by
  have cF := fixed_any w hI hS hT
  obtain ⟨n, hn⟩ : ∃ n, ps.length = n := ⟨_, rfl⟩
  obtain ⟨p, cap, rfl, hc⟩ := hv.ex
  rw [hn] at hl hm ⊢
  go_enter Tryd.func5, Tryd.ntmps5
  go_wp2_with fail
  refine cF.mono ?_; rintro r w1 ⟨rfl, b1⟩
  have hp : p = none → n = 0 ∧ cap = 0 := fun h => by
    subst h
    refine ⟨?_, hv0 _ _ rfl⟩
    cases h : ps with
    | nil => rw [← hn, h]; rfl
    | cons q r => obtain ⟨b, off, h2, _⟩ := hc 0 q (by rw [h]; rfl); cases h2
  have HC1 : ∀ W, Below w.heap.size w W → ∀ ad, p = some ad → ∀ j u, (cellsP ps)[j]? = some u → W.cell? (ad.add j) = some u := fun W hW ad had j u hu => by
    obtain ⟨i, q, hq, hh⟩ := cellsP_inv ps j u hu
    obtain ⟨b, off, h2, c0, c1, c2⟩ := hc i q hq
    obtain rfl : ad = ⟨b, off, none⟩ := Option.some.inj (had.symm.trans h2)
    rw [Addr.add_lit]
    rcases hh with ⟨rfl, rfl⟩ | ⟨rfl, rfl⟩ | ⟨rfl, rfl⟩
    · rw [hW.cell (lt_of_cell c0)]; exact c0
    · rw [← Nat.add_assoc, hW.cell (lt_of_cell c1)]; exact c1
    · rw [← Nat.add_assoc, hW.cell (lt_of_cell c2)]; exact c2
  have HN : Hid (ps.length = n) := hn
  go_wp2_with (first
    | (at_make; refine wpList_make_plain _ rfl _ _ rfl w.heap.size .i64 .i64 _ (n + 1) rfl rfl (by omega) (by omega) b1.size ?_; intro v0 w2 hown hgr; have b2 : Below w.heap.size w w2 := b1.grown hgr b1.size (fun k hk => by cases hk); have ho0 := (fun k hk => (owns_block hown k hk).1 : ∀ k, v0.ownBlock = some k → w.heap.size ≤ k); clear hgr)
    | (at_builtin; refine wpList_append_plain rfl (.tmp 23) (.tmp 24) rfl w.heap.size v0 0 [] rfl hown p n cap (cellsP ps) rfl hp (by rw [cellsP_len, HN.out]) (HC1 _ b2) (cellsP_one ps) (by omega) b2.size ?_; intro v5 w5 own5 gr5; have b5 : Below w.heap.size w w5 := b2.grown gr5 b2.size ho0; rw [List.nil_append, Nat.zero_add] at own5; simp only [Act.put, List.setIfInBounds_toArray, List.set_cons_succ, List.set_cons_zero]; clear hown gr5 ho0 b2; have ho5 := (fun k hk => (owns_block own5 k hk).1 : ∀ k, v5.ownBlock = some k → w.heap.size ≤ k); have own6 := owns_below own5 ((Below.refl _ _).alloc (Nat.le_refl _) (.cells #[.int .i64 9, .int .i64 0, .string ⟨#[]⟩] 23)); have b6 := b5.alloc b5.size (.cells #[.int .i64 9, .int .i64 0, .string ⟨#[]⟩] 23))
    | (at_builtin; refine wpList_append_plain rfl (.tmp 25) (.tmp 27) rfl w.heap.size v5 n (cellsP ps) rfl own6 (some ⟨w5.heap.size, 0, none⟩) 1 1 (cellsP [(9, 0, ⟨#[]⟩)]) rfl (fun h => by cases h) rfl (fun ad had j u hu => by (have e : ad = ⟨w5.heap.size, 0, none⟩ := (Option.some.inj had).symm); subst e; rw [Addr.add_lit]; (match j, hu with | 0, hu => (simp [cellsP] at hu; subst hu; simp) | 1, hu => (simp [cellsP] at hu; subst hu; simp) | 2, hu => (simp [cellsP] at hu; subst hu; simp) | j + 3, hu => simp [cellsP] at hu)) (cellsP_one _) (by omega) b6.size ?_; intro v7 w7 own7 gr7; have b7 : Below w.heap.size w w7 := b6.grown gr7 b6.size ho5; rw [← cellsP_append] at own7; clear own6 gr7 ho5 b6 own5 b5; obtain ⟨g, cap7, rfl, hBg, hcn, hcm, hin⟩ := own_inrow own7 (by omega); have hcI : (n : Int) ≤ cap7 := (by omega)))
  have hrow : RowP w7 (.slice (some ⟨g, 0, none⟩) n cap7) ps := by
    have := (inrow_left hin).rowP cap7
    rwa [HN.out] at this
  have hI' : ∀ i ∈ [0, 4, 9], i ∈ I := fun i hi => hI i (by simp at hi ⊢; omega)
  have cL := fun W (hW : Below w7.heap.size w7 W) => list_gen (.slice (some ⟨g, 0, none⟩) n cap7) ps m W hI' ((hS.below b7).below hW) (hrow.below hW) (fun q hq => by have := hs q hq; omega) (by omega) (by omega) hgd e hbd
  refine (cL _ (Below.refl _ _)).mono ?_
  rintro r w8 ⟨bb8, _, hl8⟩
  obtain rfl := hl8 (by omega)
  clear hl8
  go_wp2_with fail
  refine (cL _ bb8).mono ?_
  rintro r w9 ⟨bb9, _, hl9⟩
  obtain rfl := hl9 (by omega)
  clear hl9 cL
  have bb79 : Below w7.heap.size w7 w9 := bb8.trans (bb9.mono bb8.size)
  have b9 : Below w.heap.size w w9 := b7.trans (bb79.mono b7.size)
  clear own7
  go_wp2_with fail
  have cC := fun (q : P3) (hq : q ∈ ps) W (hW : Below w9.heap.size w9 W) => from_below hW (ref_chk q.1 q.2.1 q.2.2 W (by have := hs q hq; omega))
  have cN := fun W (hW : Below w9.heap.size w9 W) => from_below hW (num_of ((hN.below b9).below hW) (e + 1) he)
  rw [show errOf a (e + 1) = errV a e from rfl] at cN
  obtain ⟨E, hE⟩ : ∃ E : Int, ((e + 1 : Nat) : Int) = E := ⟨_, rfl⟩
  rw [hE] at cN
  have hz : (E != 0) = true := by rw [← hE]; simp; omega
  have hz0 : (E == 0) = false := by rw [← hE]; simp; omega
  have HG : Hid (∀ (j : Nat) q, j < m → ps[j]? = some q → chkP q = 0) := hgd
  have HB : Hid (∀ q, ps[m]? = some q → chkP q = e + 1) := hbd
  have HE : Hid (((e + 1 : Nat) : Int) = E) := hE
  have HC : Hid _ := hc
  have HCC : Hid _ := cC
  clear hgd hbd hE hp hc hs hin cC hv hv0 cF hrow HC1 hI hI' hS hN hT bb8 bb9 hn b1 b7 he
  go_loopw [10, 11, 12] (fun x e i wr => ∃ (k : Nat) (z E' : Int), k ≤ n ∧ x = .int .i64 z ∧ e = .int .i64 E' ∧ i = .int .i64 k ∧ ((k ≤ m ∧ E' = 0) ∨ (k = m + 1 ∧ z = m ∧ E' = E)) ∧ Below w9.heap.size w9 wr) (fun _ _ i _ => n - (RowKit.intOf i).toNat)
  case atStart => exact ⟨0, 0, 0, Nat.zero_le _, rfl, rfl, rfl, Or.inl ⟨Nat.zero_le _, rfl⟩, Below.refl _ _⟩
  case round =>
    obtain ⟨k, z, E', hk, rfl, rfl, rfl, hkk, hbw⟩ := hrel
    rcases hkk with ⟨hkm, rfl⟩ | ⟨rfl, rfl, rfl⟩
    · have hlt : k < n := by omega
      have hltI : (k : Int) < n := by omega
      obtain ⟨q, hq⟩ : ∃ q, ps[k]? = some q := ⟨_, List.getElem?_eq_getElem (by rw [HN.out]; exact hlt)⟩
      obtain ⟨b, off, rfl, c0, c1, c2⟩ := HC.out k q hq
      have bw := b9.trans (hbw.mono b9.size)
      have d0 : wr.cell? ⟨b, off + k * 3, none⟩ = _ := (bw.cell (lt_of_cell c0)).trans c0
      have d1 : wr.cell? ⟨b, off + k * 3 + 1, none⟩ = _ := (bw.cell (lt_of_cell c1)).trans c1
      have d2 : wr.cell? ⟨b, off + k * 3 + 2, none⟩ = _ := (bw.cell (lt_of_cell c2)).trans c2
      have cC := HCC.out q (List.mem_of_getElem? hq) _ hbw
      clear c0 c1 c2
      by_cases hlm : k < m
      · rw [show chk q.1 q.2.1 q.2.2 = 0 from HG.out k q hlm hq] at cC
        clear hq
        obtain ⟨x, y, t⟩ := q
        go_wp2_with fail
        refine cC.mono ?_; rintro r w3 ⟨rfl, hb3⟩
        go_wp2
        go_roundw
        case rel => exact ⟨k + 1, _, 0, by omega, rfl, rfl, by go_num, Or.inl ⟨by omega, rfl⟩, hb3⟩
        case measure => simp [RowKit.intOf]; omega
      · obtain rfl : m = k := by omega
        rw [show chk q.1 q.2.1 q.2.2 = e + 1 from HB.out q hq, HE.out] at cC
        clear hq hlm
        obtain ⟨x, y, t⟩ := q
        go_wp2_with fail
        refine cC.mono ?_; rintro r w3 ⟨rfl, hb3⟩
        go_wp2
        go_roundw
        case rel => exact ⟨m + 1, _, E, by omega, rfl, rfl, by go_num, Or.inr ⟨by omega, by omega, rfl⟩, hb3⟩
        case measure => simp [RowKit.intOf]; omega
    · by_cases hlt : m + 1 < n
      · have hltI : ((m + 1 : Nat) : Int) < n := by omega
        go_wp2_with fail
        refine (cN _ hbw).mono ?_; rintro r w3 ⟨rfl, b3⟩
        go_wp2_with fail
        refine (cN _ b3).mono ?_; rintro r w4 ⟨rfl, b4⟩
        go_wp2_with fail
        refine (cN _ b4).mono ?_; rintro r w5' ⟨rfl, b5⟩
        go_wp2
        go_ret
        exact ⟨rfl, b9.trans (b5.mono b9.size)⟩
      · have hltI : ¬ ((m + 1 : Nat) : Int) < n := by omega
        go_wp2_with fail
        refine (cN _ hbw).mono ?_; rintro r w3 ⟨rfl, b3⟩
        go_wp2_with fail
        refine (cN _ b3).mono ?_; rintro r w4 ⟨rfl, b4⟩
        go_wp2_with fail
        refine (cN _ b4).mono ?_; rintro r w5' ⟨rfl, b5⟩
        go_wp2
        go_ret
        exact ⟨rfl, b9.trans (b5.mono b9.size)⟩
end Go.Proofs.YtlmibpfikafbdaaDoor
