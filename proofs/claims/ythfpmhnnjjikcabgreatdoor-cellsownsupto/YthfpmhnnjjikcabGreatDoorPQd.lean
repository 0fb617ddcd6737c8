/- ops.Of: operations as pieces. -/
import Derived.Test.YthfpmhnnjjikcabGreatDoorPQc
namespace Go.Proofs.YthfpmhnnjjikcabGreatDoor
open Go Go.RowKit Go.Lib
set_option linter.unusedVariables false
abbrev FitL (E : List Op5) : Prop := ∀ o ∈ E, Fit o
theorem opV_of {w : World} {d : OV} {e : Op5} (h : d.1 = e.k ∧ d.2.1 = e.t ∧ d.2.2.1 = e.v ∧ d.2.2.2.1 = e.c ∧ RN w (slV d.2.2.2.2) e.A) : ovV d = opV e (slV d.2.2.2.2) := by
  obtain ⟨k, t, ⟨x, n, u⟩, c, s⟩ := d
  obtain ⟨k', t', ⟨x', n', u'⟩, c', A⟩ := e
  obtain ⟨h1, h2, h3, h4, _⟩ := h
  simp only at h1 h2 h3 h4
  subst h1; subst h2; subst h4
  cases h3
  rfl
set_option maxHeartbeats 2000000 in
set_option maxRecDepth 100000 in
theorem of_any {I : List Nat} {a : Nat → Addr} (v : Value) (E : List Op5) (w : World) (hI : ∀ i ∈ IxO, i ∈ I) (hS : Std I a w) (hv : ReO w v E) (hF : FitL E) (hl : E.length ≤ 1048576) :
    Calls Tryz.prog 108 #[v] w fun r w' => ∃ v', r = .returned (.tuple #[v', .int .i64 (badP E).1, errOf a (badP E).2]) ∧ ((badP E).2 = 0 → ∃ P, OwnI w' w.heap.size v' P ∧ PieD w' w.heap.size P E) ∧ ((badP E).2 ≠ 0 → v' = .slice none 0 0) ∧ Below w.heap.size w w' := by
  obtain ⟨D0, hrow, hre⟩ := hv
  have hDE := forall2_len hre
  obtain ⟨n, hn⟩ : ∃ n, D0.length = n := ⟨_, rfl⟩
  obtain ⟨p, cap, rfl, hcap, hnz, hc⟩ := hrow
  have HC : Hid (∀ (j : Nat) (d : OV), D0[j]? = some d → ∃ b off, p = some ⟨b, off, none⟩ ∧ OpAt w b (off + j * 7) d) := hc
  have HN : Hid (D0.length = n ∧ E.length = n) := ⟨hn, by rw [← hDE, hn]⟩
  have hl : n ≤ 1048576 := by rw [← hn, hDE]; exact hl
  have HK : Hid (∀ W (k : Nat) d e, Below w.heap.size w W → D0[k]? = some d → E[k]? = some e → (opE e = 0 → Calls Tryz.prog 135 #[ovV d] W fun r w' => ∃ v', r = .returned (.tuple #[pieceQ e v', .nilIface]) ∧ OwnA w' W.heap.size v' e.A ∧ Below W.heap.size W w') ∧ (∀ x, opE e = x + 1 → Calls Tryz.prog 135 #[ovV d] W fun r w' => r = .returned (.tuple #[.nilIface, errV a x]) ∧ Below W.heap.size W w')) := fun W k d e hW h1 h2 => by
    obtain ⟨y, hy, r1⟩ := forall2_get hre k d h1
    obtain rfl : y = e := Option.some.inj (hy.symm.trans h2)
    have fy := hF y (List.mem_of_getElem? hy)
    rw [opV_of r1]
    exact ⟨fun h => piece_ok y _ W hI (hS.below hW) (r1.2.2.2.2.below hW) fy h, fun x h => piece_no y _ W hI (hS.below hW) (r1.2.2.2.2.below hW) fy x h⟩
  have HE : Hid (∀ k d, D0[k]? = some d → ∃ e, E[k]? = some e) := fun k d h => by obtain ⟨y, hy, _⟩ := forall2_get hre k d h; exact ⟨y, hy⟩
  rw [hn] at hcap ⊢
  clear hc hn hDE hre hnz hF hS
  go_enter Tryz.func108, Tryz.ntmps108
  go_wp2_with (at_make; refine wpList_make_pi _ rfl _ _ rfl w.heap.size .i64 .i64 _ n rfl rfl rfl (by omega) (Nat.le_refl _) ?_; intro v0 w1 hown hgr; have hb1 : Below w.heap.size w w1 := (Below.refl _ _).grown hgr (Nat.le_refl _) (fun k hk => by cases hk); clear hgr)
  go_loopw [5, 15] (fun al i wr => ∃ (k : Nat) (P : List Value), k ≤ n ∧ i = .int .i64 k ∧ P.length = k ∧ OwnI wr w.heap.size al P ∧ PieD wr w.heap.size P (E.take k) ∧ (∀ x ∈ E.take k, opE x = 0) ∧ Below w.heap.size w wr) (fun _ i _ => n - (RowKit.intOf i).toNat)
  case atStart => exact ⟨0, [], Nat.zero_le _, rfl, rfl, hown, .nil, fun x hx => by simp at hx, hb1⟩
  case round =>
    clear hown hb1
    obtain ⟨k, P, hk, rfl, hP, hown, hpi, hgood, hbw⟩ := hrel
    by_cases hlt : k < n
    · have hltI : (k : Int) < n := by omega
      obtain ⟨d, hd⟩ : ∃ d, D0[k]? = some d := ⟨_, List.getElem?_eq_getElem (by rw [HN.out.1]; exact hlt)⟩
      obtain ⟨e, he⟩ := HE.out k d hd
      obtain ⟨b, off, rfl, hp⟩ := HC.out k d hd
      obtain ⟨c0, c1, c2, c3, c4, c5, c6⟩ := hp.below hbw
      have ba : Below w.heap.size w (wr.alloc (.cells (ovC d) 74)) := hbw.alloc hbw.size _
      have bw : Below wr.heap.size wr (wr.alloc (.cells (ovC d) 74)) := (Below.refl _ _).alloc (Nat.le_refl _) _
      obtain ⟨cg, cb⟩ := HK.out _ k d e ba hd he
      have HO : Hid (OwnI wr w.heap.size u5 P ∧ PieD wr w.heap.size P (E.take k)) := ⟨hown, hpi⟩
      have HG : Hid (∀ x ∈ E.take k, opE x = 0) := hgood
      have HT : Hid (E.take (k + 1) = E.take k ++ [e] ∧ E[k]? = some e) := by refine ⟨?_, he⟩; rw [List.take_add_one, he]; rfl
      have HPk : Hid (P.length = k) := hP
      have hge : Hid (∀ j, u5.ownBlock = some j → w.heap.size ≤ j) := fun j hj => (owns_block hown j hj).1
      have hwz : Hid (w.heap.size ≤ wr.heap.size) := hbw.size
      clear hp hd he hown hpi hgood hP
      obtain ⟨dk, dt, ⟨dx, dn, du⟩, dc, ds⟩ := d
      obtain ⟨dp, dl, dcap⟩ := ds
      simp only [slV, ovC, ovV] at c0 c1 c2 c3 c4 c5 c6 cg cb ba bw
      by_cases hg : opE e = 0
      · have cG := cg hg
        clear cg cb
        go_wp2_with fail
        refine cG.mono ?_; rintro r w5 ⟨v', rfl, own5, hb5⟩
        have b5 := ba.trans (hb5.mono (Nat.le_trans ba.size (Nat.le_refl _)))
        have bw5 := bw.trans (hb5.mono bw.size)
        obtain ⟨u, x, hux⟩ := pieceQ_if e v'
        have HX : Hid (pieceQ e v' = .iface u x) := hux
        rw [hux]
        have ba6 : Below w5.heap.size w5 (w5.alloc (.cells #[.iface u x] 102)) := (Below.refl _ _).alloc (Nat.le_refl _) _
        have HO6 : Hid (OwnI (w5.alloc (.cells #[.iface u x] 102)) w.heap.size u5 P) := owns_below (owns_below HO.out.1 bw5) ba6
        have own6 : OwnA (w5.alloc (.cells #[.iface u x] 102)) w.heap.size v' e.A := own_weaken (owns_below own5 ba6) ba.size
        have HD6 : Hid (PieD (w5.alloc (.cells #[.iface u x] 102)) w.heap.size (P ++ [.iface u x]) (E.take (k + 1))) := by
          show PieD _ _ _ _
          rw [HT.out.1]
          exact forall2_append ((HO.out.2.below bw5).below ba6) (.cons ⟨v', HX.out.symm, own6⟩ .nil)
        have b6 := b5.trans (ba6.mono b5.size)
        have hu6 : (w5.alloc (.cells #[.iface u x] 102)).cell? ⟨w5.heap.size, 0, none⟩ = some (.iface u x) := by simp
        have hPl : P.length ≤ 1048677 := by rw [HPk.out]; omega
        have HG' : Hid (∀ x ∈ E.take (k + 1), opE x = 0) := fun x hx => by
          rw [HT.out.1, List.mem_append] at hx
          rcases hx with hx | hx
          · exact HG.out x hx
          · rw [List.mem_singleton.1 hx]; exact hg
        clear own5 hb5 own6 bw5 b5 hux hg cG c0 c1 c2 c3 c4 c5 c6 ba bw ba6 HX HT HO
        go_wp2_with (at_builtin; refine wpList_append_pi rfl (.tmp 29) (.tmp 31) rfl w.heap.size u5 P rfl HO6.out w5.heap.size 1 (.iface u x) rfl hu6 rfl hPl b6.size ?_; intro v8 w8 own8 gr8; have hk8 := keepA_grownI HO6.out gr8; have b8 := b6.grown gr8 b6.size (fun j hj => hge.out j hj); have HO8 : Hid (OwnI w8 w.heap.size v8 (P ++ [.iface u x])) := own8; have HD8 : Hid (PieD w8 w.heap.size (P ++ [.iface u x]) (E.take (k + 1))) := HD6.out.keep hk8; clear own8 gr8 hk8 HO6 HD6 hu6)
        go_roundw
        case rel => exact ⟨k + 1, _, by omega, by go_num, by simp [HPk.out], HO8.out, HD8.out, HG'.out, b8⟩
        case measure => simp [RowKit.intOf]; omega
      · obtain ⟨x, hx⟩ : ∃ x, opE e = x + 1 := ⟨opE e - 1, by omega⟩
        have cB := cb x hx
        have HB : Hid (badP E = (k, x + 1)) := by
          have := bad_at HT.out.2 HG.out hg
          rw [hx] at this; exact this
        clear cg cb hx hg HT HG
        go_wp2_with fail
        refine cB.mono ?_; rintro r w5 ⟨rfl, hb5⟩
        have b5 := ba.trans (hb5.mono (Nat.le_trans ba.size (Nat.le_refl _)))
        clear cB c0 c1 c2 c3 c4 c5 c6 ba bw hb5
        go_wp2
        go_ret3
        exact ⟨.slice none 0 0, by rw [HB.out]; rfl, fun h => (by rw [HB.out] at h; cases h), fun _ => rfl, b5⟩
    · have hltI : ¬ (k : Int) < n := by omega
      have hkn : k = n := by omega
      have hE : E.take k = E := List.take_of_length_le (by rw [HN.out.2]; omega)
      rw [hE] at hpi hgood
      have HB : Hid (badP E = (0, 0)) := bad_none hgood
      have HO : Hid (OwnI wr w.heap.size u5 P ∧ PieD wr w.heap.size P E) := ⟨hown, hpi⟩
      clear hkn hE hown hpi hgood hP
      go_wp2
      go_ret3
      exact ⟨u5, by rw [HB.out]; rfl, fun _ => ⟨P, HO.out⟩, fun h => absurd (by rw [HB.out]) h, hbw⟩
end Go.Proofs.YthfpmhnnjjikcabGreatDoor
