/- build: what a delta tells: Count, Ops, Pieces, Same. vellumhand.Make, Is; vellumlaw06's gone, text, large, lives. vellumlaw06.lives answers true. Canonical lists of operations in order are in order. The canonical list while it is made: sizes. The document's deltas: Canonical. The document's op, Doc, Of, SameList of layer 9. vellumlaw09.large, vellumlaw09.lives. Of all lists of cells vellumlaw09.CellsOf answers true. -/
import Derived.Test.YtalfdjglbbmjcabGreatDoorMgc
import Derived.Test.YtalfdjglbbmjcabGreatDoorMge
import Derived.Test.YtalfdjglbbmjcabGreatDoorMgd
import Derived.Test.YtalfdjglbbmjcabGreatDoorOw
import Derived.Deep.RegionHeld3

/- build: what a delta tells: Count, Ops, Pieces, Same. -/
namespace Go.Proofs.YtalfdjglbbmjcabGreatDoor
open Go Go.RowKit Go.Lib
set_option linter.unusedVariables false

theorem count_any5 {B1 B2 : Nat} (v : Value) (E : List Op5) (w : World) (h : DelV w B1 B2 v E) :
    Calls Tryz.prog 47 #[v] w fun e w' => e = .returned (.int .i64 E.length) ∧ Below w.heap.size w w' := by
  obtain ⟨q, pv, PL, rfl, _, hq, hrow, hpie⟩ := h
  have c0 : w.cell? ⟨q, 0, none⟩ = some pv := by rw [cell_of_heap hq]; rfl
  obtain ⟨p, c, rfl⟩ := own_slice hrow
  have hl := forall2_len hpie
  rw [← hl]
  clear hq hrow hpie hl
  go_enter Tryz.func47, Tryz.ntmps47
  go_wp2
  go_ret
  exact ⟨rfl, Below.refl _ _⟩
theorem wpList_make_op (w : World) {ops : Array Oper} {rest : List Oper} {o : Oper} {a : Act} {Q : Exit → Act → World → Prop}
    (hg : o.guard = none) (l c : Operand) (hop : o.op = Op.makeSlice 39 l c) (base : Nat)
    (kl kc : IntKind) (C : Int) (n : Nat) (hl : a.eval l = .int kl 0) (hc : a.eval c = .int kc C) (hC : C = (n : Int)) (b2 : n ≤ 8388608) (b4 : base ≤ w.heap.size)
    (hK : ∀ v w', OwnO w' base v [] → w.grownBy w' none → wpList Tryz.prog ops Q rest (a.put o.dst v) w') :
    wpList Tryz.prog ops Q (o :: rest) a w := by
  obtain ⟨i, z, hi, hz, hz1, hz2, hz3⟩ := infoOp
  exact wpList_make_own w hg l c _ hop base 69 i z 7 Tryz.underlying39 hi hz hz1 kl kc C n hl hc hC (by rw [hz2]; omega) (by unfold maxLen; omega) b4 fun w' h1 h2 => hK _ w' h1 h2
theorem wpList_make_pi2 (w : World) {ops : Array Oper} {rest : List Oper} {o : Oper} {a : Act} {Q : Exit → Act → World → Prop}
    (hg : o.guard = none) (l c : Operand) (hop : o.op = Op.makeSlice 87 l c) (base : Nat)
    (kl kc : IntKind) (C : Int) (n : Nat) (hl : a.eval l = .int kl 0) (hc : a.eval c = .int kc C) (hC : C = (n : Int)) (b2 : n ≤ 8388608) (b4 : base ≤ w.heap.size)
    (hK : ∀ v w', OwnI w' base v [] → w.grownBy w' none → wpList Tryz.prog ops Q rest (a.put o.dst v) w') :
    wpList Tryz.prog ops Q (o :: rest) a w := by
  obtain ⟨i, z, hi, hz, hz1, hz2, hz3⟩ := infoPi
  exact wpList_make_own w hg l c _ hop base 91 i z 1 Tryz.underlying87 hi hz hz1 kl kc C n hl hc hC (by rw [hz2]; omega) (by unfold maxLen; omega) b4 fun w' h1 h2 => hK _ w' h1 h2
/-- What a loop over a delta's pieces reads. -/
theorem del_read {w : World} {B1 B2 q : Nat} {pv : Value} {PL : List Value} {E : List Op5} (hrow : OwnI w B1 pv PL) (hpie : PieD w B2 PL E) : ∃ p cap, pv = .slice p E.length cap ∧ ∀ k, k < E.length → ∃ ga e s, p = some ⟨ga, 0, none⟩ ∧ E[k]? = some e ∧ w.cell? ⟨ga, k, none⟩ = some (pieceQ e s) ∧ OwnA w B2 s e.A := by
  have hl := forall2_len hpie
  obtain ⟨p, cap, e⟩ := own_slice hrow
  refine ⟨p, cap, by rw [e, hl], fun k hk => ?_⟩
  obtain ⟨g, c, x, hv', hB, hx, hc⟩ := own_cell hrow k (by omega)
  obtain ⟨e', s, he, rfl, hs⟩ := oneI hpie hx
  rw [e] at hv'
  simp only [Value.slice.injEq] at hv'
  exact ⟨g, e', s, hv'.1, he, hc, hs⟩
set_option maxHeartbeats 4000000 in
set_option maxRecDepth 100000 in
theorem ops_any {B1 B2 : Nat} (v : Value) (E : List Op5) (w : World) (h : DelV w B1 B2 v E) (hg : ∀ o ∈ E, opE o = 0) (hA : ∀ o ∈ E, o.A.length ≤ 2097152) (hl : E.length ≤ 4194304) :
    Calls Tryz.prog 21 #[v] w fun e w' => ∃ v', e = .returned v' ∧ CoO w' w.heap.size v' E ∧ Below w.heap.size w w' := by
  obtain ⟨q, pv, PL, rfl, _, hq, hrow, hpie⟩ := h
  have c0 : w.cell? ⟨q, 0, none⟩ = some pv := by rw [cell_of_heap hq]; rfl
  obtain ⟨p, cap, rfl, hrd⟩ := del_read (q := q) hrow hpie
  have HV : Hid (∀ k, k < E.length → ∃ ga e s, p = some ⟨ga, 0, none⟩ ∧ E[k]? = some e ∧ w.cell? ⟨ga, k, none⟩ = some (pieceQ e s) ∧ OwnA w B2 s e.A) := hrd
  have HG : Hid (∀ o ∈ E, opE o = 0 ∧ o.A.length ≤ 2097152) := fun o ho => ⟨hg o ho, hA o ho⟩
  obtain ⟨n, hn⟩ : ∃ n, E.length = n := ⟨_, rfl⟩
  have HN : Hid (E.length = n) := hn
  rw [hn] at c0 hl HV
  clear hq hrow hpie hrd hg hA hn
  go_enter Tryz.func21, Tryz.ntmps21
  go_wp2_with (at_make; refine wpList_make_op _ rfl _ _ rfl w.heap.size .i64 .i64 _ n rfl rfl rfl (by omega) (Nat.le_refl _) ?_; intro v0 w1 hown hgr; have hb1 : Below w.heap.size w w1 := (Below.refl _ _).grown hgr (Nat.le_refl _) (fun k hk => by cases hk); have c1 := (hb1.cell (lt_of_cell c0)).trans c0; clear hgr)
  go_loopw [3, 17] (fun al i wr => ∃ (k : Nat) (D : List OV), k ≤ n ∧ i = .int .i64 k ∧ D.length = k ∧ OwnO wr w.heap.size al D ∧ OwD wr w.heap.size D (E.take k) ∧ Below w.heap.size w wr) (fun _ i _ => n - (RowKit.intOf i).toNat)
  case atStart => exact ⟨0, [], Nat.zero_le _, rfl, rfl, hown, .nil, hb1⟩
  case round =>
    clear hown hb1 c1
    obtain ⟨k, D, hk, rfl, hDl, hown, hsp, hbw⟩ := hrel
    by_cases hlt : k < n
    · have hltI : (k : Int) < n := by omega
      obtain ⟨ga, e, s, rfl, he, hc, hs⟩ := HV.out k hlt
      have c2 := (hbw.cell (lt_of_cell hc)).trans hc
      have hs2 := owns_below hs hbw
      obtain ⟨hg1, hA1⟩ := HG.out e (List.mem_of_getElem? he)
      have HT : Hid (E.take (k + 1) = E.take k ++ [e]) := by show _ = _; rw [List.take_add_one, he]; rfl
      have hge : Hid (∀ j, u3.ownBlock = some j → w.heap.size ≤ j) := fun j hj => (owns_block hown j hj).1
      have HO : Hid (OwnO wr w.heap.size u3 D ∧ OwD wr w.heap.size D (E.take k)) := ⟨hown, hsp⟩
      have hlen : D.length ≤ 8388608 := by omega
      have hlz : w.heap.size ≤ wr.heap.size := hbw.size
      have hkk := kinds_of hg1
      rcases hkk with hkk | hkk | hkk | hkk
      · have cO := opQ_1 hg1 hkk s wr (own_RN hs2) hA1
        obtain ⟨nn, hnn⟩ : ∃ x : Int, ((scs e.t.data.toList).length : Int) = x := ⟨_, rfl⟩
        rw [pieceQ_1 hkk] at c2
        rw [hnn] at c2 cO
        clear he hc hs hs2 hown hsp hg1 hA1 hkk hnn
        go_wp2_with fail
        refine cO.mono ?_; rintro r w5 ⟨v', rfl, own5, hb5⟩
        obtain ⟨p5, c5, rfl⟩ := own_slice own5
        have bw5 : Below w.heap.size w w5 := hbw.trans (hb5.mono hlz)
        obtain ⟨ek, et, ⟨ex, en, eu⟩, ec, eA⟩ := e
        have ba : Below w5.heap.size w5 (w5.alloc (.cells #[.int .i64 ek, .string et, .int .i64 ex, .int .i64 en, .string eu, .int .i64 ec, .slice p5 eA.length c5] 69)) := (Below.refl _ _).alloc (Nat.le_refl _) _
        have hat : OpAt (w5.alloc (.cells #[.int .i64 ek, .string et, .int .i64 ex, .int .i64 en, .string eu, .int .i64 ec, .slice p5 eA.length c5] 69)) w5.heap.size 0 (ek, et, (ex, en, eu), ec, p5, eA.length, c5) := ⟨by simp, by simp, by simp, by simp, by simp, by simp, by simp⟩
        have HO7 : Hid (OwnO (w5.alloc (.cells #[.int .i64 ek, .string et, .int .i64 ex, .int .i64 en, .string eu, .int .i64 ec, .slice p5 eA.length c5] 69)) w.heap.size u3 D ∧ OpAt (w5.alloc (.cells #[.int .i64 ek, .string et, .int .i64 ex, .int .i64 en, .string eu, .int .i64 ec, .slice p5 eA.length c5] 69)) w5.heap.size 0 (ek, et, (ex, en, eu), ec, p5, eA.length, c5)) := ⟨owns_below (owns_below HO.out.1 hb5) ba, hat⟩
        have HP7 : Hid (OwD (w5.alloc (.cells #[.int .i64 ek, .string et, .int .i64 ex, .int .i64 en, .string eu, .int .i64 ec, .slice p5 eA.length c5] 69)) w.heap.size (D ++ [(ek, et, (ex, en, eu), ec, p5, eA.length, c5)]) (E.take (k + 1))) := by
          show OwD _ _ _ _
          rw [HT.out]
          exact forall2_append ((HO.out.2.below hb5).below ba) (.cons ⟨rfl, rfl, rfl, rfl, own_weaken (owns_below own5 ba) hlz⟩ .nil)
        have bw7 := bw5.trans (ba.mono bw5.size)
        have hl33 : D.length ≤ 33554432 := by omega
        clear own5 hb5 bw5 ba hat HO HT cO c2
        go_wp2_with (at_builtin; refine wpList_append_ops rfl (.tmp 21) (.tmp 24) rfl w.heap.size u3 D rfl HO7.out.1 w5.heap.size 1 _ rfl HO7.out.2 hl33 bw7.size ?_; intro v8 w8 own8 gr8 hat8; have hsp8 : Hid (OwD w8 w.heap.size _ _) := HP7.out.keep (keepA_grownO HO7.out.1 gr8); have b8 := bw7.grown gr8 bw7.size (fun j hj => hge.out j hj); have HO8 : Hid (OwnO w8 w.heap.size v8 _) := own8; clear own8 gr8 hat8 HO7 HP7)
        go_roundw
        case rel => exact ⟨k + 1, _, by omega, by go_num, by simp [hDl], HO8.out, hsp8.out, b8⟩
        case measure => simp [RowKit.intOf]; omega
      · have cO := opQ_2 hg1 hkk s wr (own_RN hs2) hA1
        obtain ⟨V, hV⟩ : ∃ V, valP e.v = V := ⟨_, rfl⟩
        rw [pieceQ_2 hkk] at c2
        rw [hV] at c2 cO
        clear he hc hs hs2 hown hsp hg1 hA1 hkk hV
        go_wp2_with fail
        refine cO.mono ?_; rintro r w5 ⟨v', rfl, own5, hb5⟩
        obtain ⟨p5, c5, rfl⟩ := own_slice own5
        have bw5 : Below w.heap.size w w5 := hbw.trans (hb5.mono hlz)
        obtain ⟨ek, et, ⟨ex, en, eu⟩, ec, eA⟩ := e
        have ba : Below w5.heap.size w5 (w5.alloc (.cells #[.int .i64 ek, .string et, .int .i64 ex, .int .i64 en, .string eu, .int .i64 ec, .slice p5 eA.length c5] 69)) := (Below.refl _ _).alloc (Nat.le_refl _) _
        have hat : OpAt (w5.alloc (.cells #[.int .i64 ek, .string et, .int .i64 ex, .int .i64 en, .string eu, .int .i64 ec, .slice p5 eA.length c5] 69)) w5.heap.size 0 (ek, et, (ex, en, eu), ec, p5, eA.length, c5) := ⟨by simp, by simp, by simp, by simp, by simp, by simp, by simp⟩
        have HO7 : Hid (OwnO (w5.alloc (.cells #[.int .i64 ek, .string et, .int .i64 ex, .int .i64 en, .string eu, .int .i64 ec, .slice p5 eA.length c5] 69)) w.heap.size u3 D ∧ OpAt (w5.alloc (.cells #[.int .i64 ek, .string et, .int .i64 ex, .int .i64 en, .string eu, .int .i64 ec, .slice p5 eA.length c5] 69)) w5.heap.size 0 (ek, et, (ex, en, eu), ec, p5, eA.length, c5)) := ⟨owns_below (owns_below HO.out.1 hb5) ba, hat⟩
        have HP7 : Hid (OwD (w5.alloc (.cells #[.int .i64 ek, .string et, .int .i64 ex, .int .i64 en, .string eu, .int .i64 ec, .slice p5 eA.length c5] 69)) w.heap.size (D ++ [(ek, et, (ex, en, eu), ec, p5, eA.length, c5)]) (E.take (k + 1))) := by
          show OwD _ _ _ _
          rw [HT.out]
          exact forall2_append ((HO.out.2.below hb5).below ba) (.cons ⟨rfl, rfl, rfl, rfl, own_weaken (owns_below own5 ba) hlz⟩ .nil)
        have bw7 := bw5.trans (ba.mono bw5.size)
        have hl33 : D.length ≤ 33554432 := by omega
        clear own5 hb5 bw5 ba hat HO HT cO c2
        go_wp2_with (at_builtin; refine wpList_append_ops rfl (.tmp 21) (.tmp 24) rfl w.heap.size u3 D rfl HO7.out.1 w5.heap.size 1 _ rfl HO7.out.2 hl33 bw7.size ?_; intro v8 w8 own8 gr8 hat8; have hsp8 : Hid (OwD w8 w.heap.size _ _) := HP7.out.keep (keepA_grownO HO7.out.1 gr8); have b8 := bw7.grown gr8 bw7.size (fun j hj => hge.out j hj); have HO8 : Hid (OwnO w8 w.heap.size v8 _) := own8; clear own8 gr8 hat8 HO7 HP7)
        go_roundw
        case rel => exact ⟨k + 1, _, by omega, by go_num, by simp [hDl], HO8.out, hsp8.out, b8⟩
        case measure => simp [RowKit.intOf]; omega
      · have cO := opQ_3 hg1 hkk s wr (own_RN hs2) hA1
        rw [pieceQ_3 hkk] at c2
        clear he hc hs hs2 hown hsp hg1 hA1 hkk
        go_wp2_with fail
        refine cO.mono ?_; rintro r w5 ⟨v', rfl, own5, hb5⟩
        obtain ⟨p5, c5, rfl⟩ := own_slice own5
        have bw5 : Below w.heap.size w w5 := hbw.trans (hb5.mono hlz)
        obtain ⟨ek, et, ⟨ex, en, eu⟩, ec, eA⟩ := e
        have ba : Below w5.heap.size w5 (w5.alloc (.cells #[.int .i64 ek, .string et, .int .i64 ex, .int .i64 en, .string eu, .int .i64 ec, .slice p5 eA.length c5] 69)) := (Below.refl _ _).alloc (Nat.le_refl _) _
        have hat : OpAt (w5.alloc (.cells #[.int .i64 ek, .string et, .int .i64 ex, .int .i64 en, .string eu, .int .i64 ec, .slice p5 eA.length c5] 69)) w5.heap.size 0 (ek, et, (ex, en, eu), ec, p5, eA.length, c5) := ⟨by simp, by simp, by simp, by simp, by simp, by simp, by simp⟩
        have HO7 : Hid (OwnO (w5.alloc (.cells #[.int .i64 ek, .string et, .int .i64 ex, .int .i64 en, .string eu, .int .i64 ec, .slice p5 eA.length c5] 69)) w.heap.size u3 D ∧ OpAt (w5.alloc (.cells #[.int .i64 ek, .string et, .int .i64 ex, .int .i64 en, .string eu, .int .i64 ec, .slice p5 eA.length c5] 69)) w5.heap.size 0 (ek, et, (ex, en, eu), ec, p5, eA.length, c5)) := ⟨owns_below (owns_below HO.out.1 hb5) ba, hat⟩
        have HP7 : Hid (OwD (w5.alloc (.cells #[.int .i64 ek, .string et, .int .i64 ex, .int .i64 en, .string eu, .int .i64 ec, .slice p5 eA.length c5] 69)) w.heap.size (D ++ [(ek, et, (ex, en, eu), ec, p5, eA.length, c5)]) (E.take (k + 1))) := by
          show OwD _ _ _ _
          rw [HT.out]
          exact forall2_append ((HO.out.2.below hb5).below ba) (.cons ⟨rfl, rfl, rfl, rfl, own_weaken (owns_below own5 ba) hlz⟩ .nil)
        have bw7 := bw5.trans (ba.mono bw5.size)
        have hl33 : D.length ≤ 33554432 := by omega
        clear own5 hb5 bw5 ba hat HO HT cO c2
        go_wp2_with (at_builtin; refine wpList_append_ops rfl (.tmp 21) (.tmp 24) rfl w.heap.size u3 D rfl HO7.out.1 w5.heap.size 1 _ rfl HO7.out.2 hl33 bw7.size ?_; intro v8 w8 own8 gr8 hat8; have hsp8 : Hid (OwD w8 w.heap.size _ _) := HP7.out.keep (keepA_grownO HO7.out.1 gr8); have b8 := bw7.grown gr8 bw7.size (fun j hj => hge.out j hj); have HO8 : Hid (OwnO w8 w.heap.size v8 _) := own8; clear own8 gr8 hat8 HO7 HP7)
        go_roundw
        case rel => exact ⟨k + 1, _, by omega, by go_num, by simp [hDl], HO8.out, hsp8.out, b8⟩
        case measure => simp [RowKit.intOf]; omega
      · have cO := opQ_4 hg1 hkk wr
        rw [pieceQ_4 hkk] at c2
        clear he hc hs hs2 hown hsp hg1 hA1 hkk
        go_wp2_with fail
        refine cO.mono ?_; rintro r w5 ⟨v', rfl, own5, hb5⟩
        obtain ⟨p5, c5, rfl⟩ := own_slice own5
        have bw5 : Below w.heap.size w w5 := hbw.trans (hb5.mono hlz)
        obtain ⟨ek, et, ⟨ex, en, eu⟩, ec, eA⟩ := e
        have ba : Below w5.heap.size w5 (w5.alloc (.cells #[.int .i64 ek, .string et, .int .i64 ex, .int .i64 en, .string eu, .int .i64 ec, .slice p5 eA.length c5] 69)) := (Below.refl _ _).alloc (Nat.le_refl _) _
        have hat : OpAt (w5.alloc (.cells #[.int .i64 ek, .string et, .int .i64 ex, .int .i64 en, .string eu, .int .i64 ec, .slice p5 eA.length c5] 69)) w5.heap.size 0 (ek, et, (ex, en, eu), ec, p5, eA.length, c5) := ⟨by simp, by simp, by simp, by simp, by simp, by simp, by simp⟩
        have HO7 : Hid (OwnO (w5.alloc (.cells #[.int .i64 ek, .string et, .int .i64 ex, .int .i64 en, .string eu, .int .i64 ec, .slice p5 eA.length c5] 69)) w.heap.size u3 D ∧ OpAt (w5.alloc (.cells #[.int .i64 ek, .string et, .int .i64 ex, .int .i64 en, .string eu, .int .i64 ec, .slice p5 eA.length c5] 69)) w5.heap.size 0 (ek, et, (ex, en, eu), ec, p5, eA.length, c5)) := ⟨owns_below (owns_below HO.out.1 hb5) ba, hat⟩
        have HP7 : Hid (OwD (w5.alloc (.cells #[.int .i64 ek, .string et, .int .i64 ex, .int .i64 en, .string eu, .int .i64 ec, .slice p5 eA.length c5] 69)) w.heap.size (D ++ [(ek, et, (ex, en, eu), ec, p5, eA.length, c5)]) (E.take (k + 1))) := by
          show OwD _ _ _ _
          rw [HT.out]
          exact forall2_append ((HO.out.2.below hb5).below ba) (.cons ⟨rfl, rfl, rfl, rfl, own_weaken (owns_below own5 ba) hlz⟩ .nil)
        have bw7 := bw5.trans (ba.mono bw5.size)
        have hl33 : D.length ≤ 33554432 := by omega
        clear own5 hb5 bw5 ba hat HO HT cO c2
        go_wp2_with (at_builtin; refine wpList_append_ops rfl (.tmp 21) (.tmp 24) rfl w.heap.size u3 D rfl HO7.out.1 w5.heap.size 1 _ rfl HO7.out.2 hl33 bw7.size ?_; intro v8 w8 own8 gr8 hat8; have hsp8 : Hid (OwD w8 w.heap.size _ _) := HP7.out.keep (keepA_grownO HO7.out.1 gr8); have b8 := bw7.grown gr8 bw7.size (fun j hj => hge.out j hj); have HO8 : Hid (OwnO w8 w.heap.size v8 _) := own8; clear own8 gr8 hat8 HO7 HP7)
        go_roundw
        case rel => exact ⟨k + 1, _, by omega, by go_num, by simp [hDl], HO8.out, hsp8.out, b8⟩
        case measure => simp [RowKit.intOf]; omega
    · have hltI : ¬ (k : Int) < n := by omega
      have hE : E.take k = E := List.take_of_length_le (by rw [HN.out]; omega)
      rw [hE] at hsp
      have HX : Hid (CoO wr w.heap.size u3 E) := ⟨D, hown, hsp⟩
      clear hown hsp
      go_wp2
      go_ret
      exact ⟨_, rfl, HX.out, hbw⟩
end Go.Proofs.YtalfdjglbbmjcabGreatDoor

/- vellumhand.Make, Is; vellumlaw06's gone, text, large, lives. -/
namespace Go.Proofs.YtalfdjglbbmjcabGreatDoor
open Go Go.RowKit Go.Lib
set_option linter.unusedVariables false

set_option maxHeartbeats 1000000 in
theorem make_any {I : List Nat} {a : Nat → Addr} (v : Value) (E : List Op5) (w : World) (hI : ∀ i ∈ IxO, i ∈ I) (hS : Std I a w) (hv : ReO w v E) (hF : FitL E) (hl : E.length ≤ 1048576) (ht : txtS E ≤ 8388608) :
    Calls Tryz.prog 20 #[v] w fun r w' => ∃ dv, r = .returned dv ∧ ((ofE 0 0 E).2 = 0 → DelV w' w.heap.size w.heap.size dv (canonL E)) ∧ ((ofE 0 0 E).2 ≠ 0 → dv = .pointer none) ∧ Below w.heap.size w w' := by
  have c1 := buildOf_any v E w hI hS hv hF hl ht
  obtain ⟨D, ⟨p, cap, rfl, _, _, _⟩, hre⟩ := hv
  rw [forall2_len hre] at c1 ⊢
  clear hS hI hF hre ht
  obtain ⟨x, hx⟩ : ∃ x, ofE 0 0 E = x := ⟨_, rfl⟩
  rw [hx] at c1 ⊢
  clear hx
  obtain ⟨i, e⟩ := x
  obtain ⟨i1, hi1⟩ : ∃ z : Int, (i : Int) = z := ⟨_, rfl⟩
  simp only at c1 ⊢
  rw [hi1] at c1
  clear hi1
  cases e with
  | zero =>
    rw [errOf_zero] at c1
    go_enter Tryz.func20, Tryz.ntmps20
    go_wp2_with fail
    refine c1.mono ?_; rintro r w2 ⟨dv, rfl, hd, _, hb2⟩
    obtain ⟨q, pv, PL, rfl, hq⟩ := hd (by first | trivial | rfl)
    have HD : Hid (DelV w2 w.heap.size w.heap.size (.pointer (some ⟨q, 0, none⟩)) (canonL E)) := ⟨q, pv, PL, rfl, hq⟩
    clear c1 hd hq
    go_wp2
    go_ret
    exact ⟨_, rfl, fun _ => HD.out, fun h => absurd rfl h, hb2⟩
  | succ e =>
    rw [errOf_succ] at c1
    go_enter Tryz.func20, Tryz.ntmps20
    go_wp2_with fail
    refine c1.mono ?_; rintro r w2 ⟨dv, rfl, _, hd, hb2⟩
    obtain rfl := hd (by omega)
    clear c1 hd
    go_wp2
    go_ret
    exact ⟨_, rfl, fun h => (by cases h), fun _ => rfl, hb2⟩
/-- Lists that the calls read. -/
structure OkR (E : List Op5) : Prop where
  n : ∀ o ∈ E, o.A.length ≤ 1048576
  len : E.length ≤ 2097152
set_option maxHeartbeats 1000000 in
theorem is_any {B1 B2 : Nat} (d v : Value) (E F : List Op5) (w : World) (h : DelV w B1 B2 d E) (hg : ∀ o ∈ E, opE o = 0) (hE : OkR E) (hv : ReO w v F) (hF : OkR F) :
    Calls Tryz.prog 18 #[d, v] w fun r w' => r = .returned (.bool (decide (E = F))) ∧ Below w.heap.size w w' := by
  have c1 := ops_any d E w h hg (fun o ho => by have := hE.n o ho; omega) (by have := hE.len; omega)
  have c2 : Hid (∀ W v', Below w.heap.size w W → ReO W v' E → Calls Tryz.prog 46 #[v', v] W fun r w' => r = .returned (.bool (decide (E = F))) ∧ Below W.heap.size W w') := fun W v' hW h' => same6_any v' v E F W h' (hv.below hW) hE.len hF.len hE.n hF.n
  have c3 : Hid (∀ W, Below w.heap.size w W → Calls Tryz.prog 47 #[d] W fun e w' => e = .returned (.int .i64 E.length) ∧ Below W.heap.size W w') := fun W hW => count_any5 d E W (h.below hW)
  obtain ⟨q, pv, PL, rfl, _⟩ := h
  obtain ⟨D, ⟨p, cap, rfl, _, _, _⟩, hre⟩ := hv
  have hl := forall2_len hre
  rw [hl] at c2 ⊢
  obtain ⟨R, hR⟩ : ∃ x, decide (E = F) = x := ⟨_, rfl⟩
  rw [hR] at c2 ⊢
  have hlen : R = true → ((E.length : Int) == (F.length : Int)) = true := fun h => by
    rw [h] at hR
    rw [of_decide_eq_true hR]; simp
  clear hg hE hF hre hl hR
  go_enter Tryz.func18, Tryz.ntmps18
  go_wp2_with fail
  refine c1.mono ?_; rintro r w2 ⟨v', rfl, hco, hb2⟩
  have c4 := c2.out w2 v' hb2 hco.re
  clear c1 c2 hco
  go_wp2_with fail
  refine c4.mono ?_; rintro r w3 ⟨rfl, hb3⟩
  have b3 := hb2.trans (hb3.mono hb2.size)
  clear c4 hb2 hb3
  cases R with
  | true =>
    have c5 := c3.out w3 b3
    have hl2 := hlen rfl
    clear c3 hlen
    go_wp2_with fail
    refine c5.mono ?_; rintro r w4 ⟨rfl, hb4⟩
    have b4 := b3.trans (hb4.mono b3.size)
    clear c5 b3 hb4
    go_wp2
    go_ret
    exact ⟨rfl, b4⟩
  | false =>
    clear c3 hlen
    go_wp2
    go_ret
    exact ⟨rfl, b3⟩
/-- A text to insert. -/
def txtO (t : ByteArray) : Op5 := ⟨1, t, z0, 0, []⟩
/-- How large a list is. -/
def larN (E : List Op5) : Int := (E.map fun o => (o.t.size : Int) + 10 * o.A.length + 10).sum
theorem larN_append (E F : List Op5) : larN (E ++ F) = larN E + larN F := by unfold larN; rw [List.map_append, List.sum_append]
theorem larN_one (o : Op5) : larN [o] = (o.t.size : Int) + 10 * o.A.length + 10 := by simp [larN]
theorem larN_le {E : List Op5} (h : FitL E) : 0 ≤ larN E ∧ larN E ≤ 20000000 * E.length := by
  induction E with
  | nil => simp [larN]
  | cons o r ih =>
    obtain ⟨h1, h2⟩ := ih (fun x hx => h x (List.mem_cons_of_mem _ hx))
    have ho := h o (List.mem_cons_self ..)
    have e : larN (o :: r) = (o.t.size : Int) + 10 * o.A.length + 10 + larN r := by simp [larN]
    have a1 := ho.t
    have a2 := ho.n
    rw [e, List.length_cons]
    omega
theorem larN_txt (E : List Op5) : (txtS E : Int) + 10 * E.length ≤ larN E := by
  induction E with
  | nil => simp [larN, txtS]
  | cons o r ih =>
    have e : larN (o :: r) = (o.t.size : Int) + 10 * o.A.length + 10 + larN r := by simp [larN]
    have e2 : txtS (o :: r) = o.t.size + txtS r := by simp [txtS]
    rw [e, e2, List.length_cons]
    omega
theorem larN_mem {E : List Op5} {o : Op5} (h : o ∈ E) : (o.t.size : Int) + 10 * o.A.length + 10 ≤ larN E := by
  induction E with
  | nil => cases h
  | cons x r ih =>
    have e : larN (x :: r) = (x.t.size : Int) + 10 * x.A.length + 10 + larN r := by simp [larN]
    have := larN_txt r
    rcases List.mem_cons.1 h with rfl | h
    · omega
    · have := ih h; omega
end Go.Proofs.YtalfdjglbbmjcabGreatDoor

/- vellumlaw06.lives answers true. -/
namespace Go.Proofs.YtalfdjglbbmjcabGreatDoor
open Go Go.RowKit Go.Lib
set_option linter.unusedVariables false

/-- A row of operations laid at once. -/
theorem row_blk {w : World} {b : Nat} {D : List OV} (h : w.heap[b]? = some (.cells (cellsO D).toArray 69 (0, 0))) : RowO w (.slice (some ⟨b, 0, none⟩) D.length D.length) D := by
  refine ⟨some ⟨b, 0, none⟩, D.length, rfl, Nat.le_refl _, fun h => (by cases h), fun j d hd => ⟨b, 0, rfl, ?_⟩⟩
  obtain ⟨k0, k1, k2, k3, k4, k5, k6⟩ := cellsO_get D j d hd
  have e : ∀ i u, (cellsO D)[i]? = some u → w.cell? ⟨b, i, none⟩ = some u := fun i u hu => by
    rw [cell_of_heap h]
    rw [List.getElem?_toArray]
    exact hu
  rw [Nat.zero_add]
  exact ⟨e _ _ k0, e _ _ k1, e _ _ k2, e _ _ k3, e _ _ k4, e _ _ k5, e _ _ k6⟩
/-- An operation without attributes, as it lies in memory. -/
abbrev ovN (o : Op5) : OV := (o.k, o.t, o.v, o.c, (none, 0, 0))
theorem re_blk {w : World} {b : Nat} {E : List Op5} (h : w.heap[b]? = some (.cells (cellsO (E.map ovN)).toArray 69 (0, 0))) (hA : ∀ o ∈ E, o.A = []) : ReO w (.slice (some ⟨b, 0, none⟩) E.length E.length) E := by
  refine ⟨E.map ovN, ?_, ?_⟩
  · have := row_blk h
    rw [List.length_map] at this
    exact this
  · clear h
    induction E with
    | nil => exact .nil
    | cons o r ih =>
      refine .cons ⟨rfl, rfl, rfl, rfl, ?_⟩ (ih fun x hx => hA x (List.mem_cons_of_mem _ hx))
      rw [hA o (List.mem_cons_self ..)]
      exact RN.nil w
def live0 : List Op5 := [delO 1, txtO ⟨#[97]⟩, delO 2, txtO ⟨#[98]⟩, ⟨3, ⟨#[]⟩, z0, 3, []⟩]
def live1 : List Op5 := [txtO ⟨#[97, 98]⟩, delO 3]
theorem live0_ok : ofE 0 0 live0 = (0, 0) := by kernel_rfl
theorem live0_canon : canonL live0 = live1 := by kernel_rfl
theorem fit_nil {o : Op5} (h1 : o.t.size ≤ 8388608) (h2 : o.v.2.2.size ≤ 1048576) (h3 : o.A = []) : Fit o := ⟨h1, h2, fun q hq => (by rw [h3] at hq; cases hq), by rw [h3]; simp⟩
theorem live0_nil : ∀ o ∈ live0, o.A = [] := by
  intro o ho
  simp only [live0, List.mem_cons, List.not_mem_nil, or_false] at ho
  rcases ho with rfl | rfl | rfl | rfl | rfl <;> rfl
theorem live1_nil : ∀ o ∈ live1, o.A = [] := by
  intro o ho
  simp only [live1, List.mem_cons, List.not_mem_nil, or_false] at ho
  rcases ho with rfl | rfl <;> rfl
theorem live0_fit : FitL live0 := by
  intro o ho
  refine fit_nil ?_ ?_ (live0_nil o ho)
  all_goals
    simp only [live0, List.mem_cons, List.not_mem_nil, or_false] at ho
    rcases ho with rfl | rfl | rfl | rfl | rfl <;> decide
theorem live1_okR : OkR live1 := ⟨fun o ho => by rw [live1_nil o ho]; simp, by decide⟩
theorem live1_good : ∀ o ∈ live1, opE o = 0 := by
  intro o ho
  simp only [live1, List.mem_cons, List.not_mem_nil, or_false] at ho
  rcases ho with rfl | rfl <;> kernel_rfl
end Go.Proofs.YtalfdjglbbmjcabGreatDoor

/- Canonical lists of operations in order are in order. -/
namespace Go.Proofs.YtalfdjglbbmjcabGreatDoor
open Go Go.RowKit Go.Lib
set_option linter.unusedVariables false

theorem trim_sub (P : List Op5) : (∀ x ∈ trimL P, x ∈ P) ∧ txtS (trimL P) ≤ txtS P ∧ (trimL P).length ≤ P.length := by
  rcases List.eq_nil_or_concat P with rfl | ⟨F, x, rfl⟩
  · exact ⟨fun x h => h, Nat.le_refl _, Nat.le_refl _⟩
  · rw [List.concat_eq_append]
    have e : trimL (F ++ [x]) = if plainR x then F else F ++ [x] := by
      unfold trimL
      rw [List.getLast?_concat, List.dropLast_concat]
    rw [e]
    split
    · exact ⟨fun y h => List.mem_append_left _ h, by rw [txtS_append]; omega, by simp⟩
    · exact ⟨fun y h => h, Nat.le_refl _, Nat.le_refl _⟩
/-- The canonical list of operations in order is in order, and no greater. -/
theorem canon_ok {E : List Op5} (h : OkE E) : OkE (canonL E) ∧ txtS (canonL E) ≤ txtS E ∧ (canonL E).length ≤ E.length := by
  have hz : BSz (bldR E) E.length (txtS E) := by
    have := bldR_sz E BSz.nil h.fit
    rw [Nat.zero_add, Nat.zero_add] at this
    exact this
  obtain ⟨c1, c2, c3, c4⟩ := canon_spec h.wel
  obtain ⟨s1, s2⟩ := canon_sums h.wel
  have key : (∀ x ∈ canonL E, FitA x) ∧ txtS (canonL E) ≤ txtS E ∧ (canonL E).length ≤ E.length := by
    rw [← finB_canon h.wel]
    obtain ⟨a, b, c⟩ := hz.set
    have a2 := hz.fit
    have b2 := hz.txt
    have c2 := hz.len
    unfold finB
    by_cases h0 : 0 < (bldR E).2
    · rw [if_pos h0]
      unfold setB at a b c
      rw [if_pos h0] at a b c
      exact ⟨a, b, c⟩
    · rw [if_neg h0]
      obtain ⟨t1, t2, t3⟩ := trim_sub (bldR E).1
      exact ⟨fun x hx => a2 x (t1 x hx), by omega, by omega⟩
  have hb := h.base
  have hr := h.res
  have ht := h.txt
  have hl := h.len
  exact ⟨⟨wel_good c1 (by omega), key.1, by omega, by omega, by omega, by omega⟩, key.2⟩
theorem OkE.okR {E : List Op5} (h : OkE E) (hl : E.length ≤ 2097152) : OkR E := ⟨fun o ho => (h.fit o ho).n, hl⟩
theorem OkE.fitL {E : List Op5} (h : OkE E) : FitL E := fitA_all h.fit h.txt
/-- A list that isn't large. -/
theorem small_of {E : List Op5} (h : decide (60000 < larN E) = false) : txtS E ≤ 60000 ∧ E.length ≤ 6000 ∧ ∀ o ∈ E, o.A.length ≤ 6000 := by
  have h1 := of_decide_eq_false h
  have h2 := larN_txt E
  exact ⟨by omega, by omega, fun o ho => by have := larN_mem ho; omega⟩
/-- What a loop over a list of the call's own and over a row of pieces reads. -/
theorem both_read {w : World} {B1 B2 : Nat} {v1 v2 : Value} {P : List Value} {C : List Op5} (h1 : CoO w B1 v1 C) (h2 : OwnI w B2 v2 P) (h3 : PieD w B2 P C) :
    ∃ p1 c1 p2 c2, v1 = .slice p1 C.length c1 ∧ v2 = .slice p2 C.length c2 ∧ ∀ m, m < C.length → ∃ (e : Op5) (d : OV) (b ga : Nat) (s : Value), C[m]? = some e ∧ p1 = some ⟨b, 0, none⟩ ∧ OpAt w b (0 + m * 7) d ∧ ovV d = opV e (slV d.2.2.2.2) ∧ d.1 = e.k ∧ OwnA w B1 (slV d.2.2.2.2) e.A ∧ p2 = some ⟨ga, 0, none⟩ ∧ w.cell? ⟨ga, m, none⟩ = some (pieceQ e s) ∧ OwnA w B2 s e.A := by
  obtain ⟨D, hD, hO⟩ := h1
  have hl1 := forall2_len hO
  have hl2 := forall2_len h3
  obtain ⟨p1, c1, e1⟩ := own_slice hD
  obtain ⟨p2, c2, e2⟩ := own_slice h2
  refine ⟨p1, c1, p2, c2, by rw [e1, hl1], by rw [e2, hl2], fun m hm => ?_⟩
  obtain ⟨ga, c, x, hv', hB, hx, hc⟩ := own_cell h2 m (by omega)
  obtain ⟨e, s, he, rfl, hs⟩ := oneI h3 hx
  rw [e2] at hv'
  simp only [Value.slice.injEq] at hv'
  have hd : D[m]? = some (D[m]'(by omega)) := List.getElem?_eq_getElem (by omega)
  obtain ⟨y, hy, r⟩ := forall2_get hO m _ hd
  obtain rfl : y = e := Option.some.inj (hy.symm.trans he)
  rcases hD.2 with ⟨_, h0⟩ | ⟨g, cap, cur, e3, _, _, _, _, _, _⟩
  · omega
  · rw [e1] at e3
    simp only [Value.slice.injEq] at e3
    have hD' := hD
    unfold OwnO at hD'
    rw [e1, e3.1] at hD'
    have hat := own_opAt hD' m _ hd
    exact ⟨y, D[m]'(by omega), g, ga, s, he, e3.1, hat, opV_of ⟨r.1, r.2.1, r.2.2.1, r.2.2.2.1, own_RN r.2.2.2.2⟩, r.1, r.2.2.2.2, hv'.1, hc, hs⟩
end Go.Proofs.YtalfdjglbbmjcabGreatDoor

/- The canonical list while it is made: sizes. -/
namespace Go.Proofs.YtalfdjglbbmjcabGreatDoor
open Go Go.RowKit Go.Lib
set_option linter.unusedVariables false

theorem base_jn {x o : Op5} (hk : x.k = o.k) : baseO (jnO x o) = baseO x + baseO o ∨ o.k = 1 ∨ o.k = 2 := by
  by_cases h : o.k = 3 ∨ o.k = 4
  · left
    rw [base_3 h, base_3 (o := x) (by omega), base_3 (o := jnO x o) (by show x.k = 3 ∨ x.k = 4; omega)]
    rfl
  · by_cases h1 : o.k = 1
    · exact Or.inr (Or.inl h1)
    · by_cases h2 : o.k = 2
      · exact Or.inr (Or.inr h2)
      · left
        have e : ∀ y : Op5, y.k = o.k → baseO y = 0 := fun y hy => by unfold baseO; rw [if_neg (by omega)]
        rw [e x hk, e o rfl, e (jnO x o) hk]; rfl
/-- Lists of operations put together bit by bit: sizes. -/
structure PQ (P : List Op5) (T : Nat) (S : Int) (L : Nat) : Prop where
  wel : ∀ x ∈ P, Wel x ∧ x.A.length ≤ 1048576
  txt : txtS P ≤ T
  sum : sumB P ≤ S
  len : P.length ≤ L
theorem PQ.push {P : List Op5} {T L : Nat} {S : Int} {o : Op5} (h : PQ P T S L) (ho : Wel o) (hA : o.A.length ≤ 1048576) : PQ (pushL P o) (T + o.t.size) (S + baseO o) (L + 1) := by
  obtain ⟨s1, s2⟩ := push_size P o
  have h1 := h.txt
  have h2 := h.len
  have h3 := h.sum
  refine ⟨?_, by omega, ?_, by omega⟩
  · rcases List.eq_nil_or_concat P with rfl | ⟨F, x, rfl⟩
    · rw [push_nil]; intro y hy; rw [List.mem_singleton.1 hy]; exact ⟨ho, hA⟩
    · rw [List.concat_eq_append] at h ⊢
      by_cases hj : x.k ≠ o.k ∨ o.k = 2 ∨ x.A ≠ o.A
      · rw [push_apart hj]
        intro y hy
        rcases List.mem_append.1 hy with hy | hy
        · exact h.wel y hy
        · rw [List.mem_singleton.1 hy]; exact ⟨ho, hA⟩
      · rw [push_join hj]
        have hx := h.wel x (List.mem_append_right _ (List.mem_singleton.2 rfl))
        have hk : x.k = o.k := Decidable.byContradiction fun e => hj (Or.inl e)
        have h2' : o.k ≠ 2 := fun e => hj (Or.inr (Or.inl e))
        have hA' : x.A = o.A := Decidable.byContradiction fun e => hj (Or.inr (Or.inr e))
        intro y hy
        rcases List.mem_append.1 hy with hy | hy
        · exact h.wel y (List.mem_append_left _ hy)
        · rw [List.mem_singleton.1 hy]
          exact ⟨(join_wel hx.1 ho hk h2' hA').1, hx.2⟩
  · rcases List.eq_nil_or_concat P with rfl | ⟨F, x, rfl⟩
    · rw [push_nil, sumB_one]; have : sumB ([] : List Op5) = 0 := rfl; omega
    · rw [List.concat_eq_append] at h3 ⊢
      by_cases hj : x.k ≠ o.k ∨ o.k = 2 ∨ x.A ≠ o.A
      · rw [push_apart hj, sumB_append, sumB_one]; omega
      · rw [push_join hj, sumB_append, sumB_one]
        rw [sumB_append, sumB_one] at h3
        have hk : x.k = o.k := Decidable.byContradiction fun e => hj (Or.inl e)
        rcases base_jn hk with e | e | e
        · rw [e]; omega
        · rw [base_1 (o := jnO x o) (by show x.k = 1 ∨ x.k = 2; omega), base_1 (o := o) (Or.inl e)]
          rw [base_1 (o := x) (by omega)] at h3
          omega
        · exact absurd (Or.inr (Or.inl e)) hj
theorem PQ.up {P : List Op5} {T T' L L' : Nat} {S S' : Int} (h : PQ P T S L) (h1 : T ≤ T') (h2 : S ≤ S') (h3 : L ≤ L') : PQ P T' S' L' := ⟨h.wel, Nat.le_trans h.txt h1, Int.le_trans h.sum h2, Nat.le_trans h.len h3⟩
theorem PQ.fold : ∀ (G : List Op5) {P : List Op5} {T L : Nat} {S : Int}, PQ P T S L → (∀ o ∈ G, (Wel o ∧ o.A.length ≤ 1048576) ∧ (o.k = 1 ∨ o.k = 2)) → PQ (G.foldl pushL P) (T + txtS G) S (L + G.length)
  | [], P, T, L, S, h, _ => h
  | o :: r, P, T, L, S, h, hG => by
    obtain ⟨⟨h1, h2⟩, h3⟩ := hG o (List.mem_cons_self ..)
    have hp := h.push h1 h2
    rw [base_1 h3, Int.add_zero] at hp
    have := PQ.fold r hp (fun x hx => hG x (List.mem_cons_of_mem _ hx))
    have e : txtS (o :: r) = o.t.size + txtS r := by simp [txtS]
    rw [e, List.length_cons]
    exact this.up (by omega) (Int.le_refl _) (by omega)
/-- The document's state behind some operations: sizes. -/
structure RunQ (F : List Op5) (s : List Op5 × List Op5 × Int) : Prop where
  out : ∃ T S L, PQ s.1 T S L ∧ T + txtS s.2.1 ≤ txtS F ∧ S + s.2.2 ≤ sumB F ∧ L + s.2.1.length + (if 0 < s.2.2 then 1 else 0) ≤ F.length
  gap : ∀ o ∈ s.2.1, (Wel o ∧ o.A.length ≤ 1048576) ∧ (o.k = 1 ∨ o.k = 2)
  nn : 0 ≤ s.2.2
theorem RunQ.nil : RunQ [] ([], [], 0) := ⟨⟨0, 0, 0, ⟨fun x h => (by cases h), by simp [txtS], by simp [sumB], by simp⟩, by simp [txtS], by simp [sumB], by simp⟩, fun o h => (by cases h), Int.le_refl 0⟩
theorem flush_q {F : List Op5} {s : List Op5 × List Op5 × Int} (h : RunQ F s) : PQ (flushL s.1 s.2.1 s.2.2) (txtS F) (sumB F) F.length := by
  obtain ⟨⟨T, S, L, h1, h2, h3, h4⟩, h5, h6⟩ := h
  have hf := PQ.fold s.2.1 h1 h5
  unfold flushL
  split
  · rename_i h0
    rw [if_pos h0] at h4
    have := hf.push (delO_wel (n := s.2.2) (by omega)) (by show (0 : Nat) ≤ _; omega)
    rw [base_3 (o := delO s.2.2) (Or.inr rfl)] at this
    exact this.up (by show T + txtS s.2.1 + 0 ≤ _; omega) (by show S + s.2.2 ≤ _; omega) (by omega)
  · exact hf.up (by omega) (by omega) (by omega)
theorem RunQ.step {F : List Op5} {s : List Op5 × List Op5 × Int} {o : Op5} (h : RunQ F s) (ho : Wel o) (hA : o.A.length ≤ 1048576) : RunQ (F ++ [o]) (stepC s o) := by
  have e1 := txtS_append F [o]
  have e2 := sumB_append F [o]
  rw [txtS_one] at e1
  rw [sumB_one] at e2
  have e3 : (F ++ [o]).length = F.length + 1 := by simp
  have hq := flush_q h
  have hn := h.nn
  unfold stepC
  rcases ho.kinds with hk | hk | hk | hk
  · rw [if_pos (Or.inl hk)]
    rw [base_1 (Or.inl hk)] at e2
    obtain ⟨T, S, L, h1, h2, h3, h4⟩ := h.out
    refine ⟨⟨T, S, L, h1, ?_, by show S + s.2.2 ≤ _; omega, ?_⟩, fun x hx => ?_, hn⟩
    · show T + txtS (s.2.1 ++ [o]) ≤ _; rw [txtS_append, txtS_one]; omega
    · show L + (s.2.1 ++ [o]).length + _ ≤ _; rw [List.length_append]; simp only [List.length_singleton]; omega
    · rcases List.mem_append.1 hx with hx | hx
      · exact h.gap x hx
      · rw [List.mem_singleton.1 hx]; exact ⟨⟨ho, hA⟩, Or.inl hk⟩
  · rw [if_pos (Or.inr hk)]
    rw [base_1 (Or.inr hk)] at e2
    obtain ⟨T, S, L, h1, h2, h3, h4⟩ := h.out
    refine ⟨⟨T, S, L, h1, ?_, by show S + s.2.2 ≤ _; omega, ?_⟩, fun x hx => ?_, hn⟩
    · show T + txtS (s.2.1 ++ [o]) ≤ _; rw [txtS_append, txtS_one]; omega
    · show L + (s.2.1 ++ [o]).length + _ ≤ _; rw [List.length_append]; simp only [List.length_singleton]; omega
    · rcases List.mem_append.1 hx with hx | hx
      · exact h.gap x hx
      · rw [List.mem_singleton.1 hx]; exact ⟨⟨ho, hA⟩, Or.inr hk⟩
  · rw [if_neg (by omega), if_neg (by omega)]
    have hp := hq.push ho hA
    exact ⟨⟨_, _, _, hp, by show txtS F + o.t.size + txtS [] ≤ _; rw [show txtS [] = 0 from rfl]; omega, by show sumB F + baseO o + 0 ≤ _; omega, by show F.length + 1 + 0 + (if (0 : Int) < 0 then 1 else 0) ≤ _; simp⟩, fun x hx => (by cases hx), Int.le_refl 0⟩
  · rw [if_neg (by omega), if_pos hk]
    rw [base_3 (Or.inr hk)] at e2
    have hc := ho.count (Or.inr hk)
    obtain ⟨T, S, L, h1, h2, h3, h4⟩ := h.out
    refine ⟨⟨T, S, L, h1, by show T + txtS s.2.1 ≤ _; omega, by show S + (s.2.2 + o.c) ≤ _; omega, ?_⟩, h.gap, by show 0 ≤ s.2.2 + o.c; omega⟩
    show L + s.2.1.length + (if 0 < s.2.2 + o.c then 1 else 0) ≤ _
    rw [if_pos (by omega)]; omega
theorem runC_snoc (F : List Op5) (o : Op5) : runC (F ++ [o]) = stepC (runC F) o := by unfold runC; rw [List.foldl_append]; rfl
theorem runQ_take {E : List Op5} (h : OkE E) : ∀ k, k ≤ E.length → RunQ (E.take k) (runC (E.take k)) := fun k => by
  induction k with
  | zero => intro _; rw [List.take_zero]; exact RunQ.nil
  | succ k ih =>
    intro hk
    have he : E[k]? = some E[k] := List.getElem?_eq_getElem (by omega)
    have hm : E[k] ∈ E := List.getElem_mem _
    rw [List.take_add_one, he, Option.toList_some, runC_snoc]
    exact (ih (by omega)).step (h.wel _ hm) (h.fit _ hm).n
/-- What push asks of the operations ahead. -/
theorem PQ.ask {P : List Op5} {T L : Nat} {S : Int} (h : PQ P T S L) (hT : T ≤ 8388608) (hS : S ≤ 2199023255552) : ∀ x ∈ P, Wel x ∧ x.A.length ≤ 2097152 ∧ x.t.size ≤ 8388608 ∧ x.c ≤ 2199023255552 := fun x hx => by
  obtain ⟨h1, h2⟩ := h.wel x hx
  have h3 := txtS_mem hx
  have h4 := h.txt
  have h5 := h.sum
  have h6 := cnt_le (fun y hy => (h.wel y hy).1) hx
  exact ⟨h1, by omega, by omega, by omega⟩
end Go.Proofs.YtalfdjglbbmjcabGreatDoor

/- The document's deltas: Canonical. -/
namespace Go.Proofs.YtalfdjglbbmjcabGreatDoor
open Go Go.RowKit Go.Lib
set_option linter.unusedVariables false

/-- Two rows of the call's own, apart. -/
structure CanS (w0 wc W : World) (vo vg : Value) (PO PG : List Op5) : Prop where
  out : ∃ D, OwnO W wc.heap.size vo D ∧ ReD w0 D PO
  gap : ∃ D, OwnO W wc.heap.size vg D ∧ ReD w0 D PG
  apart : ∀ k, vo.ownBlock = some k → vg.ownBlock ≠ some k
  below : Below wc.heap.size wc W
  base : Below w0.heap.size w0 wc
theorem CanS.keep {w0 wc W W' : World} {vo vg : Value} {PO PG : List Op5} (h : CanS w0 wc W vo vg PO PG) (b : Below W.heap.size W W') : CanS w0 wc W' vo vg PO PG := by
  obtain ⟨D, a1, a2⟩ := h.out
  obtain ⟨G, b1, b2⟩ := h.gap
  exact ⟨⟨D, owns_below a1 b, a2⟩, ⟨G, owns_below b1 b, b2⟩, h.apart, h.below.trans (b.mono h.below.size), h.base⟩
theorem CanS.pushed {w0 wc W W' : World} {vo vg : Value} {PO PG P : List Op5} {e : Ending} (h : CanS w0 wc W vo vg PO PG) (r : PushR w0 wc.heap.size W W' vo e P) : ∃ v', e = .returned v' ∧ CanS w0 wc W' v' vg P PG := by
  obtain ⟨v', D', rfl, h1, h2, h3, h4⟩ := r
  obtain ⟨D, a1, a2⟩ := h.out
  obtain ⟨G, b1, b2⟩ := h.gap
  have hlt : ∀ k, vg.ownBlock = some k → k < W.heap.size := fun k hk => by
    obtain ⟨_, cur, hc⟩ := owns_block b1 k hk
    exact (Array.getElem?_eq_some_iff.1 hc).1
  refine ⟨v', rfl, ⟨D', h1, h2⟩, ⟨G, owns_same b1 fun k hk => h3.block k (hlt k hk) (fun e => h.apart k e hk), b2⟩, fun k hk hg => ?_, ?_, h.base⟩
  · rcases h4 with h4 | ⟨j, h4, h5⟩
    · exact h.apart k (h4 ▸ hk) hg
    · rw [h4] at hk
      obtain rfl : j = k := Option.some.inj hk
      have := hlt j hg
      omega
  · have := h3.below (B := wc.heap.size) h.below.size (fun k hk => (owns_block a1 k hk).1)
    exact h.below.trans this
theorem CanS.gapped {w0 wc W w8 : World} {vo vg v8 : Value} {PO PG : List Op5} {e : Op5} {sp : Option Addr} {sl sc : Nat} (h : CanS w0 wc W vo vg PO PG) {D : List OV} (hD : ReD w0 D PG) (hr : RN w0 (.slice sp sl sc) e.A) (h1 : OwnO w8 wc.heap.size v8 (D ++ [(e.k, e.t, e.v, e.c, (sp, sl, sc))])) (gr : W.grownBy w8 vg.ownBlock) (hat : v8.ownBlock = vg.ownBlock ∨ v8.ownBlock = some W.heap.size) : CanS w0 wc w8 vo v8 PO (PG ++ [e]) := by
  obtain ⟨DO, a1, a2⟩ := h.out
  obtain ⟨G, b1, b2⟩ := h.gap
  have hlt : ∀ k, vo.ownBlock = some k → k < W.heap.size := fun k hk => by
    obtain ⟨_, cur, hc⟩ := owns_block a1 k hk
    exact (Array.getElem?_eq_some_iff.1 hc).1
  refine ⟨⟨DO, owns_same a1 fun k hk => gr.block k (hlt k hk) (fun e => h.apart k hk e.symm), a2⟩, ⟨_, h1, forall2_append hD (.cons ⟨rfl, rfl, rfl, rfl, hr⟩ .nil)⟩, fun k hk hg => ?_, ?_, h.base⟩
  · rcases hat with e | e
    · exact h.apart k hk (e ▸ hg)
    · rw [e] at hg
      obtain rfl : W.heap.size = k := Option.some.inj hg
      have := hlt _ hk
      omega
  · exact h.below.grown gr h.below.size (fun k hk => (owns_block b1 k hk).1)
theorem CanS.cleared {w0 wc W : World} {vo vg : Value} {PO PG : List Op5} (h : CanS w0 wc W vo vg PO PG) : CanS w0 wc W vo (.slice none 0 0) PO [] :=
  ⟨h.out, ⟨[], ⟨rfl, Or.inl ⟨rfl, rfl⟩⟩, .nil⟩, fun k _ h => (by cases h), h.below, h.base⟩
theorem CanS.len {w0 wc W : World} {vo vg : Value} {PO PG : List Op5} (h : CanS w0 wc W vo vg PO PG) : ∃ p c, vg = .slice p PG.length c := by
  obtain ⟨G, b1, b2⟩ := h.gap
  obtain ⟨p, c, e⟩ := own_slice b1
  exact ⟨p, c, by rw [e, forall2_len b2]⟩
theorem CanS.read {w0 wc W : World} {vo : Value} {PO PG : List Op5} {p : Option Addr} {l c : Nat} (h : CanS w0 wc W vo (.slice p l c) PO PG) (j : Nat) (hj : j < PG.length) : ∃ (e : Op5) (b : Nat) (sp : Option Addr) (sl sc : Nat), PG[j]? = some e ∧ p = some ⟨b, 0, none⟩ ∧ OpAt W b (0 + j * 7) (e.k, e.t, e.v, e.c, (sp, sl, sc)) ∧ RN w0 (.slice sp sl sc) e.A := by
  obtain ⟨G, b1, b2⟩ := h.gap
  have hl := forall2_len b2
  obtain ⟨d, hd⟩ : ∃ d, G[j]? = some d := ⟨_, List.getElem?_eq_getElem (by omega)⟩
  obtain ⟨e, he, h1, h2, h3, h4, h5⟩ := forall2_get b2 j d hd
  obtain ⟨dk, dt, dv, dc, sp, sl, sc⟩ := d
  simp only at h1 h2 h3 h4
  subst h1; subst h2; subst h3; subst h4
  obtain ⟨q, cc, hv⟩ := own_slice b1
  rcases b1.2 with ⟨_, h0⟩ | ⟨g, cap, cur, e1, _⟩
  · omega
  · cases e1
    exact ⟨e, g, sp, sl, sc, he, rfl, own_opAt b1 j _ hd, h5⟩
/-- push on the rows. -/
theorem push_can {w0 wc W : World} {vo vg : Value} {PO PG : List Op5} {T L : Nat} {S : Int} (o : Op5) (sp : Option Addr) (sl sc : Nat) (h : CanS w0 wc W vo vg PO PG) (ho : RN w0 (.slice sp sl sc) o.A) (q : PQ PO T S L) (hT : T ≤ 8388608) (hS : S ≤ 2199023255552) (hL : L ≤ 4194304) (how : Wel o) (hn2 : o.A.length ≤ 1048576) (hot : o.t.size ≤ 8388608) (hoc : o.c ≤ 2199023255552) :
    Calls Tryz.prog 91 #[vo, opV o (.slice sp sl sc)] W fun e w' => ∃ v', e = .returned v' ∧ CanS w0 wc w' v' vg (pushL PO o) PG := by
  obtain ⟨D, a1, a2⟩ := h.out
  have hl := q.len
  exact (push6_any vo D PO o sp sl sc W h.below.size (h.base.trans (h.below.mono h.base.size)) a1 a2 ho (by omega) (q.ask hT hS) how (by omega) hot hoc).mono fun e w' r => h.pushed r
/-- The sizes while a gap is put behind. -/
theorem RunQ.fold {F : List Op5} {s : List Op5 × List Op5 × Int} (h : RunQ F s) (j : Nat) : PQ ((s.2.1.take j).foldl pushL s.1) (txtS F) (sumB F) F.length := by
  obtain ⟨⟨T, S, L, h1, h2, h3, h4⟩, h5, h6⟩ := h
  have hf := PQ.fold (s.2.1.take j) h1 (fun o ho => h5 o (List.mem_of_mem_take ho))
  have e1 := txtS_take s.2.1 j
  have e2 : (s.2.1.take j).length ≤ s.2.1.length := by rw [List.length_take]; omega
  exact hf.up (by omega) (by omega) (by split at h4 <;> omega)
/-- The state ahead of the m-th round. -/
def stA (E : List Op5) (m : Nat) : List Op5 × List Op5 × Int := if m ≤ E.length then runC (E.take m) else (flushL (runC E).1 (runC E).2.1 (runC E).2.2, [], 0)
theorem stA_end (E : List Op5) : stA E (E.length + 1) = (flushL (runC E).1 (runC E).2.1 (runC E).2.2, [], 0) := by unfold stA; rw [if_neg (by omega)]
theorem stA_at {E : List Op5} {m : Nat} (h : m ≤ E.length) : stA E m = runC (E.take m) := by unfold stA; rw [if_pos h]
theorem stA_succ {E : List Op5} {m : Nat} {e : Op5} (h : E[m]? = some e) : stA E (m + 1) = stepC (stA E m) e := by
  have hm : m < E.length := (List.getElem?_eq_some_iff.1 h).1
  rw [stA_at (by omega), stA_at (by omega), List.take_add_one, h, Option.toList_some, runC_snoc]
theorem stA_ins {E : List Op5} {m : Nat} {e : Op5} (h : E[m]? = some e) (hk : e.k = 1 ∨ e.k = 2) : stA E (m + 1) = ((stA E m).1, (stA E m).2.1 ++ [e], (stA E m).2.2) := by rw [stA_succ h]; unfold stepC; rw [if_pos hk]
theorem stA_del {E : List Op5} {m : Nat} {e : Op5} (h : E[m]? = some e) (hk : e.k = 4) : stA E (m + 1) = ((stA E m).1, (stA E m).2.1, (stA E m).2.2 + e.c) := by rw [stA_succ h]; unfold stepC; rw [if_neg (by omega), if_pos hk]
theorem stA_ret {E : List Op5} {m : Nat} {e : Op5} (h : E[m]? = some e) (hk : e.k = 3) : stA E (m + 1) = (pushL (flushL (stA E m).1 (stA E m).2.1 (stA E m).2.2) e, [], 0) := by rw [stA_succ h]; unfold stepC; rw [if_neg (by omega), if_neg (by omega)]
theorem trim_nil : trimL [] = [] := rfl
theorem trim_yes {F : List Op5} {x : Op5} (h : plainR x = true) : trimL (F ++ [x]) = F := by unfold trimL; rw [List.getLast?_concat]; simp only; rw [if_pos h, List.dropLast_concat]
theorem trim_no {F : List Op5} {x : Op5} (h : plainR x = false) : trimL (F ++ [x]) = F ++ [x] := by unfold trimL; rw [List.getLast?_concat]; simp only; rw [if_neg (by simp [h])]
/-- The sizes of the state ahead of the m-th round. -/
theorem stA_q {E : List Op5} (h : OkE E) {m : Nat} (hm : m ≤ E.length) : (∀ j, PQ (((stA E m).2.1.take j).foldl pushL (stA E m).1) 8388608 1099511627776 4194304) ∧ PQ (flushL (stA E m).1 (stA E m).2.1 (stA E m).2.2) 8388608 1099511627776 4194304 ∧ (∀ o ∈ (stA E m).2.1, Wel o ∧ o.A.length ≤ 1048576 ∧ o.t.size ≤ 8388608 ∧ o.c ≤ 2199023255552) ∧ 0 ≤ (stA E m).2.2 ∧ (stA E m).2.2 ≤ 1099511627776 ∧ (stA E m).2.1.length ≤ 4194304 := by
  rw [stA_at hm]
  have q := runQ_take h m hm
  have t1 := txtS_take E m
  have t2 := h.txt
  have t3 := h.len
  have t4 : (E.take m).length ≤ E.length := by rw [List.length_take]; omega
  have t5 : sumB (E.take m) ≤ sumB E := by
    have := sumB_append (E.take m) (E.drop m)
    rw [List.take_append_drop] at this
    have := (sums_nn (E := E.drop m) (fun o ho => h.wel o (List.mem_of_mem_drop ho))).1
    omega
  have t6 := h.base
  obtain ⟨⟨T, S, L, h1, h2, h3, h4⟩, h5, h6⟩ := q
  have hS : 0 ≤ S := by
    have := (sums_nn (E := (runC (E.take m)).1) (fun o ho => (h1.wel o ho).1)).1
    have := h1.sum
    omega
  have q := runQ_take h m hm
  refine ⟨fun j => (q.fold j).up (by omega) (by omega) (by omega), (flush_q q).up (by omega) (by omega) (by omega), fun o ho => ?_, h6, by omega, by split at h4 <;> omega⟩
  obtain ⟨⟨a1, a2⟩, a3⟩ := h5 o ho
  have := txtS_mem ho
  refine ⟨a1, a2, by omega, ?_⟩
  rcases a1 with ⟨hi, _⟩ | ⟨b, _⟩ | ⟨b, _⟩
  · rw [hi.count]; omega
  · omega
  · omega
/-- A row of operations in a block from a mark on. -/
def FarO (w : World) (B : Nat) (v : Value) (D : List OV) : Prop :=
  ∃ p cap, v = .slice p D.length cap ∧ D.length ≤ cap ∧ (p = none → cap = 0) ∧ ∀ (j : Nat) (d : OV), D[j]? = some d → ∃ b off, p = some ⟨b, off, none⟩ ∧ B ≤ b ∧ OpAt w b (off + j * 7) d
theorem FarO.row {w : World} {B : Nat} {v : Value} {D : List OV} (h : FarO w B v D) : RowO w v D := by
  obtain ⟨p, cap, h1, h2, h3, h4⟩ := h
  exact ⟨p, cap, h1, h2, h3, fun j d hd => by obtain ⟨b, off, a1, _, a2⟩ := h4 j d hd; exact ⟨b, off, a1, a2⟩⟩
theorem FarO.below {w w' : World} {B : Nat} {v : Value} {D : List OV} (h : FarO w B v D) (hb : Below w.heap.size w w') : FarO w' B v D := by
  obtain ⟨p, cap, h1, h2, h3, h4⟩ := h
  exact ⟨p, cap, h1, h2, h3, fun j d hd => by obtain ⟨b, off, a1, a0, a2⟩ := h4 j d hd; exact ⟨b, off, a1, a0, a2.below hb⟩⟩
theorem FarO.weaken {w : World} {B C : Nat} {v : Value} {D : List OV} (h : FarO w B v D) (hc : C ≤ B) : FarO w C v D := by
  obtain ⟨p, cap, h1, h2, h3, h4⟩ := h
  exact ⟨p, cap, h1, h2, h3, fun j d hd => by obtain ⟨b, off, a1, a0, a2⟩ := h4 j d hd; exact ⟨b, off, a1, Nat.le_trans hc a0, a2⟩⟩
theorem far_own {w : World} {B : Nat} {v : Value} {D F : List OV} {n cap : Nat} {p : Option Addr} (h : OwnO w B v D) (hv : v = .slice p n cap) (hF : ∀ (j : Nat) (d : OV), F[j]? = some d → D[j]? = some d) (hl : F.length ≤ D.length) : FarO w B (.slice p F.length cap) F := by
  rcases h.2 with ⟨e1, h0⟩ | ⟨g, c, cur, e1, h2, h3, h4, h5⟩
  · rw [hv] at e1
    simp only [Value.slice.injEq] at e1
    obtain ⟨rfl, _, rfl⟩ := e1
    obtain rfl : F = [] := List.eq_nil_of_length_eq_zero (by omega)
    exact ⟨none, 0, rfl, Nat.le_refl _, fun _ => rfl, fun j d hd => (by simp at hd)⟩
  · rw [hv] at e1
    simp only [Value.slice.injEq] at e1
    obtain ⟨rfl, rfl, rfl⟩ := e1
    rw [hv] at h
    exact ⟨_, cap, rfl, by omega, fun h => (by cases h), fun j d hd => ⟨g, 0, rfl, h2, own_opAt h j d (hF j d hd)⟩⟩
set_option maxHeartbeats 40000000 in
set_option maxRecDepth 100000 in
theorem canon6_any {w0 : World} (va : Value) (D0 : List OV) (E : List Op5) (w : World) (hb0 : Below w0.heap.size w0 w) (hrow : RowO w va D0) (hre : ReD w0 D0 E) (ok : OkE E) :
    Calls Tryz.prog 71 #[va] w fun r w' => ∃ v', r = .returned v' ∧ (∃ D', FarO w' w.heap.size v' D' ∧ ReD w0 D' (canonL E)) ∧ Below w.heap.size w w' := by
  have hDE := forall2_len hre
  obtain ⟨n, hn⟩ : ∃ n, E.length = n := ⟨_, rfl⟩
  obtain ⟨p, cap, rfl, hcap, hnz, hc⟩ := hrow
  have HR : Hid (∀ k, k < n → ∃ (e : Op5) (b off : Nat) (sp : Option Addr) (sl sc : Nat), E[k]? = some e ∧ p = some ⟨b, off, none⟩ ∧ OpAt w b (off + k * 7) (e.k, e.t, e.v, e.c, (sp, sl, sc)) ∧ RN w0 (.slice sp sl sc) e.A) := fun k hk => by
    obtain ⟨d, hd⟩ : ∃ d, D0[k]? = some d := ⟨_, List.getElem?_eq_getElem (by omega)⟩
    obtain ⟨e, he, h1, h2, h3, h4, h5⟩ := forall2_get hre k d hd
    obtain ⟨b, off, hp, hat⟩ := hc k d hd
    obtain ⟨dk, dt, dv, dc, sp, sl, sc⟩ := d
    simp only at h1 h2 h3 h4
    subst h1; subst h2; subst h3; subst h4
    exact ⟨e, b, off, sp, sl, sc, he, hp, hat, h5⟩
  have HN : Hid (E.length = n ∧ OkE E) := ⟨hn, ok⟩
  have hnl : n ≤ 4194304 := by have := ok.len; omega
  rw [hDE, hn] at hcap ⊢
  clear hc hDE hre hnz ok hn
  have hcs : CanS w0 w ((w.alloc (.cells #[] 69)).alloc (.cells #[] 69)) (.slice (some ⟨w.heap.size, 0, none⟩) 0 0) (.slice (some ⟨w.heap.size + 1, 0, none⟩) 0 0) [] [] := by
    have o1 := own_emptyO w w.heap.size (Nat.le_refl _)
    have b1 := (Below.refl w.heap.size w).alloc (Nat.le_refl _) (.cells #[] 69)
    have s1 : (w.alloc (.cells #[] 69)).heap.size = w.heap.size + 1 := by simp
    have o2 := own_emptyO (w.alloc (.cells #[] 69)) w.heap.size (by omega)
    rw [s1] at o2
    refine ⟨⟨[], owns_below o1 ((Below.refl _ _).alloc (Nat.le_refl _) _), .nil⟩, ⟨[], o2, .nil⟩, fun k h1 h2 => ?_, b1.alloc b1.size _, hb0⟩
    have e1 : w.heap.size = k := Option.some.inj h1
    have e2 : w.heap.size + 1 = k := Option.some.inj h2
    omega
  have HS0 : Hid (CanS w0 w ((w.alloc (.cells #[] 69)).alloc (.cells #[] 69)) (.slice (some ⟨w.heap.size, 0, none⟩) 0 0) (.slice (some ⟨w.heap.size + 1, 0, none⟩) 0 0) (stA E 0).1 (stA E 0).2.1) := by
    rw [stA_at (Nat.zero_le _), List.take_zero]; exact hcs
  have hz0 : (0 : Int) = (stA E 0).2.2 := by rw [stA_at (Nat.zero_le _), List.take_zero]; rfl
  clear hcs
  go_enter Tryz.func71, Tryz.ntmps71
  go_wp2
  obtain ⟨W0, hW0⟩ : ∃ W, W = (w.alloc (.cells #[] 69)).alloc (.cells #[] 69) := ⟨_, rfl⟩
  obtain ⟨vo0, hvo0⟩ : ∃ v : Value, v = .slice (some ⟨w.heap.size, 0, none⟩) 0 0 := ⟨_, rfl⟩
  obtain ⟨vg0, hvg0⟩ : ∃ v : Value, v = .slice (some ⟨w.heap.size + 1, 0, none⟩) 0 0 := ⟨_, rfl⟩
  rw [← hW0, ← hvo0, ← hvg0] at HS0
  try rw [← hW0]
  try rw [← hvo0]
  try rw [← hvg0]
  clear hW0 hvo0 hvg0
  go_loopw [3, 4, 5, 6] (fun vo vg g i wr => ∃ (m : Nat), m ≤ n + 1 ∧ i = .int .i64 m ∧ g = .int .i64 (stA E m).2.2 ∧ Hid (CanS w0 w wr vo vg (stA E m).1 (stA E m).2.1)) (fun _ _ _ i _ => n + 1 - (RowKit.intOf i).toNat)
  case atStart => exact ⟨0, Nat.zero_le _, rfl, by rw [← hz0], HS0⟩
  case round =>
    clear HS0 hz0
    obtain ⟨m, hm, rfl, rfl, HS⟩ := hrel
    by_cases hlt : m < n
    · have hltI : (m : Int) < n := by omega
      have hleI : (m : Int) ≤ n := by omega
      have hge0 : (0 : Int) ≤ (m : Int) := by omega
      obtain ⟨e, b, off, sp, sl, sc, he, rfl, hat, hrn⟩ := HR.out m hlt
      obtain ⟨c0, c1, c2, c3, c4, c5, c6⟩ := hat.below HS.out.below
      have how := HN.out.2.wel e (List.mem_of_getElem? he)
      have hA := (HN.out.2.fit e (List.mem_of_getElem? he)).n
      have ht : e.t.size ≤ 8388608 := by have := txtS_mem (List.mem_of_getElem? he); have := HN.out.2.txt; omega
      have hq := stA_q HN.out.2 (m := m) (by have := HN.out.1; omega)
      have hec : e.c ≤ 2199023255552 := by
        have := HN.out.2.base
        rcases cnt_le HN.out.2.wel (List.mem_of_getElem? he) with h1 | h1 <;> omega
      have HF : Hid (RN w0 (.slice sp sl sc) e.A ∧ Wel e ∧ e.A.length ≤ 1048576 ∧ e.t.size ≤ 8388608 ∧ e.c ≤ 2199023255552) := ⟨hrn, how, hA, ht, hec⟩
      have HQ := Hid.mk' hq
      have cI := ins6_any e sp sl sc wr
      rcases (show (e.k = 1 ∨ e.k = 2) ∨ e.k = 3 ∨ e.k = 4 by rcases how.kinds with h | h | h | h <;> omega) with hk | hk | hk
      · have HNX := Hid.mk' (stA_ins he hk)
        have cI0 : decide (e.k = 1 ∨ e.k = 2) = true := decide_eq_true (by omega)
        rw [cI0] at cI
        have HG : Hid (∀ W, Below wr.heap.size wr W → ∃ D, D.length ≤ 33554432 ∧ OpAt (W.alloc (.cells (opC e (.slice sp sl sc)) 69)) W.heap.size 0 (e.k, e.t, e.v, e.c, (sp, sl, sc)) ∧ OwnO (W.alloc (.cells (opC e (.slice sp sl sc)) 69)) w.heap.size u4 D ∧ w.heap.size ≤ (W.alloc (.cells (opC e (.slice sp sl sc)) 69)).heap.size ∧ ∀ v8 w8, OwnO w8 w.heap.size v8 (D ++ [(e.k, e.t, e.v, e.c, (sp, sl, sc))]) → (W.alloc (.cells (opC e (.slice sp sl sc)) 69)).grownBy w8 u4.ownBlock → (v8.ownBlock = u4.ownBlock ∨ v8.ownBlock = some (W.alloc (.cells (opC e (.slice sp sl sc)) 69)).heap.size) → CanS w0 w w8 u3 v8 (stA E (m + 1)).1 (stA E (m + 1)).2.1) := fun W hW => by
          have h := HS.out.keep hW
          have hk := h.keep ((Below.refl W.heap.size W).alloc (Nat.le_refl _) (.cells (opC e (.slice sp sl sc)) 69))
          obtain ⟨D, d1, d2⟩ := hk.gap
          have hl := forall2_len d2
          have := hq.2.2.2.2.2
          refine ⟨D, by omega, ⟨by simp [opC], by simp [opC], by simp [opC], by simp [opC], by simp [opC], by simp [opC], by simp [opC]⟩, d1, hk.below.size, fun v8 w8 a1 a2 a3 => ?_⟩
          rw [HNX.out]; exact hk.gapped d2 hrn a1 a2 a3
        have H2 : Hid ((stA E (m + 1)).2.2 = (stA E m).2.2) := by show _ = _; rw [HNX.out]
        obtain ⟨g, hg⟩ : ∃ x, (stA E m).2.2 = x := ⟨_, rfl⟩
        rw [hg] at H2 ⊢
        clear cI0 HQ hq hrn how hA ht hec hat he HF HNX HS hg
        obtain ⟨k, t, ⟨xx, nn, u⟩, cc, A⟩ := e
        simp only [slV] at c0 c1 c2 c3 c4 c5 c6 cI
        go_wp2_with fail
        refine cI.mono ?_; rintro r w1 ⟨rfl, hb1⟩
        have d0 := (hb1.cell (lt_of_cell c0)).trans c0
        have d1 := (hb1.cell (lt_of_cell c1)).trans c1
        have d2 := (hb1.cell (lt_of_cell c2)).trans c2
        have d3 := (hb1.cell (lt_of_cell c3)).trans c3
        have d4 := (hb1.cell (lt_of_cell c4)).trans c4
        have d5 := (hb1.cell (lt_of_cell c5)).trans c5
        have d6 := (hb1.cell (lt_of_cell c6)).trans c6
        obtain ⟨D, hD1, hD2, hD3, hD4, hD5⟩ := HG.out w1 hb1
        have HD5 := Hid.mk' hD5
        clear cI HG hD5 c0 c1 c2 c3 c4 c5 c6 hb1
        go_wp2_with (at_builtin; refine wpList_append_ops rfl (.tmp 28) (.tmp 33) rfl w.heap.size u4 D rfl hD3 _ 1 _ rfl hD2 hD1 hD4 ?_; intro v8 w8 own8 gr8 hat8; have HS2 := Hid.mk' (HD5.out v8 w8 own8 gr8 hat8); clear own8 gr8 hat8 HD5 hD1 hD2 hD3 hD4 d0 d1 d2 d3 d4 d5 d6)
        go_roundw
        case rel => exact ⟨m + 1, by omega, by go_num, by rw [H2.out], HS2⟩
        case measure => simp [RowKit.intOf]; omega
      · have HNX := Hid.mk' (stA_ret he hk)
        have cI0 : decide (e.k = 1 ∨ e.k = 2) = false := decide_eq_false (by omega)
        rw [cI0] at cI
        have HBE : Hid (∀ W, Below w.heap.size w W → OpAt W b (off + m * 7) (e.k, e.t, e.v, e.c, (sp, sl, sc))) := fun W hW => hat.below hW
        clear cI0 hq hrn how hA ht hec hat he
        obtain ⟨PO, hPO⟩ : ∃ x, (stA E m).1 = x := ⟨_, rfl⟩
        obtain ⟨PG, hPG⟩ : ∃ x, (stA E m).2.1 = x := ⟨_, rfl⟩
        obtain ⟨g, hg⟩ : ∃ x, (stA E m).2.2 = x := ⟨_, rfl⟩
        rw [hPO, hPG, hg] at HNX HQ
        rw [hPO, hPG] at HS
        rw [hg]
        clear hPO hPG hg
        have hg2 := HQ.out.2.2.2.2.1
        have hg1 := HQ.out.2.2.2.1
        obtain ⟨k, t, ⟨xx, nn, u⟩, cc, A⟩ := e
        simp only [slV] at hk c0 c1 c2 c3 c4 c5 c6 cI HBE
        subst hk
        go_wp2_with fail
        refine cI.mono ?_; rintro r w1 ⟨rfl, hb1⟩
        have c0' := (hb1.cell (lt_of_cell c0)).trans c0
        obtain ⟨pg, cg, rfl⟩ := HS.out.len
        have H1 : Hid (CanS w0 w w1 u3 (.slice pg PG.length cg) PO PG) := HS.out.keep hb1
        obtain ⟨lg, hlg⟩ : ∃ x, PG.length = x := ⟨_, rfl⟩
        have HLG : Hid (PG.length = lg) := hlg
        have hlg4 : lg ≤ 4194304 := by have := HQ.out.2.2.2.2.2; omega
        rw [hlg] at H1 ⊢
        clear hlg cI HS c0 c1 c2 c3 c4 c5 c6 hb1
        go_wp2
        go_loopw [3, 56] (fun vo i wr2 => ∃ (j : Nat), j ≤ lg ∧ i = .int .i64 j ∧ Hid (CanS w0 w wr2 vo (.slice pg lg cg) ((PG.take j).foldl pushL PO) PG)) (fun _ i _ => lg - (RowKit.intOf i).toNat)
        case atStart => exact ⟨0, Nat.zero_le _, rfl, by rw [List.take_zero]; exact H1⟩
        case round =>
          clear H1
          obtain ⟨j, hj, rfl, H1⟩ := hrel
          by_cases hjl : j < lg
          · have hjI : (j : Int) < lg := by omega
            have hj0 : (0 : Int) ≤ (j : Int) := by omega
            obtain ⟨e', gg, sp', sl', sc', he', rfl, hat', hrn'⟩ := H1.out.read j (by rw [HLG.out]; exact hjl)
            obtain ⟨d0, d1, d2, d3, d4, d5, d6⟩ := hat'
            rw [Nat.zero_add] at d0 d1 d2 d3 d4 d5 d6
            have HB := H1.out.keep ((Below.refl wr.heap.size wr).alloc (Nat.le_refl _) (.cells (opC e' (.slice sp' sl' sc')) 69))
            obtain ⟨a1, a2, a3, a4⟩ := HQ.out.2.2.1 e' (List.mem_of_getElem? he')
            have cP := push_can e' sp' sl' sc' HB hrn' (HQ.out.1 j) (Nat.le_refl _) (by decide) (Nat.le_refl _) a1 a2 a3 a4
            have hP2 : pushL ((PG.take j).foldl pushL PO) e' = (PG.take (j + 1)).foldl pushL PO := by rw [List.take_add_one, he', List.foldl_append]; rfl
            rw [hP2] at cP
            clear HB a1 a2 a3 a4 H1 hrn' he' hP2
            obtain ⟨k', t', ⟨x', n', u'⟩, c', A'⟩ := e'
            simp only [opC, slV] at d0 d1 d2 d3 d4 d5 d6 cP
            go_wp2_with fail
            refine cP.mono ?_; rintro r w5 ⟨v5, rfl, h5⟩
            have H5 := Hid.mk' h5
            clear cP d0 d1 d2 d3 d4 d5 d6 h5
            go_wp2
            go_roundw
            case rel => exact ⟨j + 1, by omega, by go_num, H5⟩
            case measure => simp [RowKit.intOf]; omega
          · obtain rfl : j = lg := by omega
            have hjI : ¬ (j : Int) < j := by omega
            have hq1 := HQ.out.1 j
            rw [show PG.take j = PG by have := HLG.out; rw [← this, List.take_length]] at H1 hq1
            by_cases hgp : 0 < g
            · have cP := push_can (delO g) none 0 0 H1.out (RN.nil w0) hq1 (Nat.le_refl _) (by decide) (Nat.le_refl _) (delO_wel (by omega)) (by show (0 : Nat) ≤ _; omega) (by show (0 : Nat) ≤ _; omega) (by show g ≤ _; omega)
              have hfl : pushL (PG.foldl pushL PO) (delO g) = flushL PO PG g := by unfold flushL; rw [if_pos hgp]
              rw [hfl] at cP
              simp only [delO] at cP
              clear hq1 H1 hfl
              go_wp2_with fail
              refine cP.mono ?_; rintro r w5 ⟨v5, rfl, h5⟩
              have H5 := Hid.mk' h5.cleared
              clear cP h5
              obtain ⟨d0, d1, d2, d3, d4, d5, d6⟩ := HBE.out w5 H5.out.below
              have cP := push_can ⟨3, t, (xx, nn, u), cc, A⟩ sp sl sc H5.out HF.out.1 HQ.out.2.1 (Nat.le_refl _) (by decide) (Nat.le_refl _) HF.out.2.1 HF.out.2.2.1 HF.out.2.2.2.1 HF.out.2.2.2.2
              have H2 : Hid ((stA E (m + 1)).2.2 = 0) := by show _ = _; rw [HNX.out]
              have h1 : pushL (flushL PO PG g) ⟨3, t, (xx, nn, u), cc, A⟩ = (stA E (m + 1)).1 := by rw [HNX.out]
              have h2 : ([] : List Op5) = (stA E (m + 1)).2.1 := by rw [HNX.out]
              rw [h1, h2] at cP
              clear H5 h1 h2 HNX HQ HF
              simp only [slV] at d0 d1 d2 d3 d4 d5 d6 cP
              go_wp2_with fail
              refine cP.mono ?_; rintro r w6 ⟨v6, rfl, h6⟩
              have H6 := Hid.mk' h6
              clear cP d0 d1 d2 d3 d4 d5 d6 h6
              go_wp2
              go_roundw
              case rel => exact ⟨m + 1, by omega, by go_num, by rw [H2.out], H6⟩
              case measure => simp [RowKit.intOf]; omega
            · have hfl : PG.foldl pushL PO = flushL PO PG g := by unfold flushL; rw [if_neg hgp]
              rw [hfl] at H1
              have H5 := Hid.mk' H1.out.cleared
              clear hq1 H1 hfl
              obtain ⟨d0, d1, d2, d3, d4, d5, d6⟩ := HBE.out wr H5.out.below
              have cP := push_can ⟨3, t, (xx, nn, u), cc, A⟩ sp sl sc H5.out HF.out.1 HQ.out.2.1 (Nat.le_refl _) (by decide) (Nat.le_refl _) HF.out.2.1 HF.out.2.2.1 HF.out.2.2.2.1 HF.out.2.2.2.2
              have H2 : Hid ((stA E (m + 1)).2.2 = 0) := by show _ = _; rw [HNX.out]
              have h1 : pushL (flushL PO PG g) ⟨3, t, (xx, nn, u), cc, A⟩ = (stA E (m + 1)).1 := by rw [HNX.out]
              have h2 : ([] : List Op5) = (stA E (m + 1)).2.1 := by rw [HNX.out]
              rw [h1, h2] at cP
              clear H5 h1 h2 HNX HQ HF
              simp only [slV] at d0 d1 d2 d3 d4 d5 d6 cP
              go_wp2_with fail
              refine cP.mono ?_; rintro r w6 ⟨v6, rfl, h6⟩
              have H6 := Hid.mk' h6
              clear cP d0 d1 d2 d3 d4 d5 d6 h6
              go_wp2
              go_roundw
              case rel => exact ⟨m + 1, by omega, by go_num, by rw [H2.out], H6⟩
              case measure => simp [RowKit.intOf]; omega
      · have HNX := Hid.mk' (stA_del he hk)
        have cI0 : decide (e.k = 1 ∨ e.k = 2) = false := decide_eq_false (by omega)
        rw [cI0] at cI
        have hcnt := how.count (Or.inr hk)
        have hg2 := hq.2.2.2.2.1
        have hg1 := hq.2.2.2.1
        clear cI0 HF HQ hq hrn how hA ht hat he
        obtain ⟨g, hg⟩ : ∃ x, (stA E m).2.2 = x := ⟨_, rfl⟩
        rw [hg] at HNX hg1 hg2 ⊢
        obtain ⟨k, t, ⟨xx, nn, u⟩, cc, A⟩ := e
        simp only [slV] at hk c0 c1 c2 c3 c4 c5 c6 hec hcnt cI
        subst hk
        go_wp2_with fail
        refine cI.mono ?_; rintro r w1 ⟨rfl, hb1⟩
        have c0' := (hb1.cell (lt_of_cell c0)).trans c0
        have c5' := (hb1.cell (lt_of_cell c5)).trans c5
        have H1 : Hid (CanS w0 w w1 u3 u4 (stA E (m + 1)).1 (stA E (m + 1)).2.1) := by rw [HNX.out]; exact HS.out.keep hb1
        have H2 : Hid ((stA E (m + 1)).2.2 = g + cc) := by show _ = _; rw [HNX.out]
        clear cI HS HNX c0 c1 c2 c3 c4 c5 c6 hg hb1
        go_wp2
        go_roundw
        case rel => exact ⟨m + 1, by omega, by go_num, by rw [H2.out], H1⟩
        case measure => simp [RowKit.intOf]; omega
    · by_cases hmn : m = n
      · subst hmn
        have hge0 : (0 : Int) ≤ (m : Int) := by omega
        have hq := stA_q HN.out.2 (m := m) (by have := HN.out.1; omega)
        have HQ := Hid.mk' hq
        have hst : stA E (m + 1) = (flushL (stA E m).1 (stA E m).2.1 (stA E m).2.2, [], 0) := by
          have e1 := HN.out.1
          rw [← e1, stA_end, stA_at (Nat.le_refl _), List.take_length]
        have HNX := Hid.mk' hst
        clear hq hst hlt
        obtain ⟨PO, hPO⟩ : ∃ x, (stA E m).1 = x := ⟨_, rfl⟩
        obtain ⟨PG, hPG⟩ : ∃ x, (stA E m).2.1 = x := ⟨_, rfl⟩
        obtain ⟨g, hg⟩ : ∃ x, (stA E m).2.2 = x := ⟨_, rfl⟩
        rw [hPO, hPG, hg] at HNX HQ
        rw [hPO, hPG] at HS
        rw [hg]
        clear hPO hPG hg
        have hg2 := HQ.out.2.2.2.2.1
        have hg1 := HQ.out.2.2.2.1
        obtain ⟨pg, cg, rfl⟩ := HS.out.len
        obtain ⟨lg, hlg⟩ : ∃ x, PG.length = x := ⟨_, rfl⟩
        have HLG : Hid (PG.length = lg) := hlg
        have hlg4 : lg ≤ 4194304 := by have := HQ.out.2.2.2.2.2; omega
        have H1 : Hid (CanS w0 w wr u3 (.slice pg PG.length cg) PO PG) := HS
        rw [hlg] at H1 ⊢
        clear hlg HS
        go_wp2
        go_loopw [3, 56] (fun vo i wr2 => ∃ (j : Nat), j ≤ lg ∧ i = .int .i64 j ∧ Hid (CanS w0 w wr2 vo (.slice pg lg cg) ((PG.take j).foldl pushL PO) PG)) (fun _ i _ => lg - (RowKit.intOf i).toNat)
        case atStart => exact ⟨0, Nat.zero_le _, rfl, by rw [List.take_zero]; exact H1⟩
        case round =>
          clear H1
          obtain ⟨j, hj, rfl, H1⟩ := hrel
          by_cases hjl : j < lg
          · have hjI : (j : Int) < lg := by omega
            have hj0 : (0 : Int) ≤ (j : Int) := by omega
            obtain ⟨e', gg, sp', sl', sc', he', rfl, hat', hrn'⟩ := H1.out.read j (by rw [HLG.out]; exact hjl)
            obtain ⟨d0, d1, d2, d3, d4, d5, d6⟩ := hat'
            rw [Nat.zero_add] at d0 d1 d2 d3 d4 d5 d6
            have HB := H1.out.keep ((Below.refl wr.heap.size wr).alloc (Nat.le_refl _) (.cells (opC e' (.slice sp' sl' sc')) 69))
            obtain ⟨a1, a2, a3, a4⟩ := HQ.out.2.2.1 e' (List.mem_of_getElem? he')
            have cP := push_can e' sp' sl' sc' HB hrn' (HQ.out.1 j) (Nat.le_refl _) (by decide) (Nat.le_refl _) a1 a2 a3 a4
            have hP2 : pushL ((PG.take j).foldl pushL PO) e' = (PG.take (j + 1)).foldl pushL PO := by rw [List.take_add_one, he', List.foldl_append]; rfl
            rw [hP2] at cP
            clear HB a1 a2 a3 a4 H1 hrn' he' hP2
            obtain ⟨k', t', ⟨x', n', u'⟩, c', A'⟩ := e'
            simp only [opC, slV] at d0 d1 d2 d3 d4 d5 d6 cP
            go_wp2_with fail
            refine cP.mono ?_; rintro r w5 ⟨v5, rfl, h5⟩
            have H5 := Hid.mk' h5
            clear cP d0 d1 d2 d3 d4 d5 d6 h5
            go_wp2
            go_roundw
            case rel => exact ⟨j + 1, by omega, by go_num, H5⟩
            case measure => simp [RowKit.intOf]; omega
          · obtain rfl : j = lg := by omega
            have hjI : ¬ (j : Int) < j := by omega
            have hq1 := HQ.out.1 j
            rw [show PG.take j = PG by have := HLG.out; rw [← this, List.take_length]] at H1 hq1
            by_cases hgp : 0 < g
            · have cP := push_can (delO g) none 0 0 H1.out (RN.nil w0) hq1 (Nat.le_refl _) (by decide) (Nat.le_refl _) (delO_wel (by omega)) (by show (0 : Nat) ≤ _; omega) (by show (0 : Nat) ≤ _; omega) (by show g ≤ _; omega)
              have hfl : pushL (PG.foldl pushL PO) (delO g) = flushL PO PG g := by unfold flushL; rw [if_pos hgp]
              rw [hfl] at cP
              simp only [delO] at cP
              clear hq1 H1 hfl
              go_wp2_with fail
              refine cP.mono ?_; rintro r w5 ⟨v5, rfl, h5⟩
              have H5 := Hid.mk' h5.cleared
              clear cP h5
              have H2 : Hid ((stA E (m + 1)).2.2 = 0) := by show _ = _; rw [HNX.out]
              have H6 : Hid (CanS w0 w w5 v5 (.slice none 0 0) (stA E (m + 1)).1 (stA E (m + 1)).2.1) := by rw [HNX.out]; exact H5
              clear H5 HNX HQ
              go_wp2
              go_roundw
              case rel => exact ⟨m + 1, by omega, by go_num, by rw [H2.out], H6⟩
              case measure => (simp [RowKit.intOf]) <;> omega
            · have hfl : PG.foldl pushL PO = flushL PO PG g := by unfold flushL; rw [if_neg hgp]
              rw [hfl] at H1
              have H5 := Hid.mk' H1.out.cleared
              clear hq1 H1 hfl
              have H2 : Hid ((stA E (m + 1)).2.2 = 0) := by show _ = _; rw [HNX.out]
              have H6 : Hid (CanS w0 w wr u3 (.slice none 0 0) (stA E (m + 1)).1 (stA E (m + 1)).2.1) := by rw [HNX.out]; exact H5
              clear H5 HNX HQ
              go_wp2
              go_roundw
              case rel => exact ⟨m + 1, by omega, by go_num, by rw [H2.out], H6⟩
              case measure => (simp [RowKit.intOf]) <;> omega
      · obtain rfl : m = n + 1 := by omega
        have hnl1 : ¬ ((n : Int) + 1 ≤ n) := by omega
        have hst : (stA E (n + 1)).1 = flushL (runC E).1 (runC E).2.1 (runC E).2.2 := by
          have e1 := HN.out.1
          rw [← e1, stA_end]
        rw [hst] at HS
        have hq := (stA_q HN.out.2 (m := n) (by have := HN.out.1; omega)).2.1.len
        rw [stA_at (by have := HN.out.1; omega), show E.take n = E by have := HN.out.1; rw [← this, List.take_length]] at hq
        have hcan : canonL E = trimL (flushL (runC E).1 (runC E).2.1 (runC E).2.2) := rfl
        generalize flushL (runC E).1 (runC E).2.1 (runC E).2.2 = P at HS hq hcan
        have hb := HS.out.below
        obtain ⟨D, hown, hD⟩ := HS.out.out
        have hD' := hD
        have hlen := forall2_len hD
        generalize (stA E (n + 1)).2.2 = g at *
        clear HS hst HN HR hD
        rcases List.eq_nil_or_concat P with rfl | ⟨F, x, rfl⟩
        · obtain rfl : D = [] := List.eq_nil_of_length_eq_zero (by simpa using hlen)
          obtain ⟨po, co, hvo⟩ := own_slice hown
          obtain rfl : u3 = .slice po 0 co := hvo
          have HO : Hid (FarO wr w.heap.size (.slice po 0 co) [] ∧ Below w.heap.size w wr) := ⟨far_own hown rfl (fun _ _ h => h) (Nat.le_refl _), hb⟩
          have HC : Hid (canonL E = []) := hcan
          clear hown hb hD' hlen hq hmn hlt hm hcan
          go_wp2
          go_ret
          exact ⟨_, rfl, ⟨[], HO.out.1, by rw [HC.out]; exact .nil⟩, HO.out.2⟩
        · rw [List.concat_eq_append] at hD' hlen hq hcan
          obtain ⟨FD, d, rfl⟩ : ∃ FD d, D = FD ++ [d] := by
            rcases List.eq_nil_or_concat D with rfl | ⟨FD, d, rfl⟩
            · simp at hlen
            · exact ⟨FD, d, List.concat_eq_append⟩
          have hl' : FD.length = F.length := by simpa using hlen
          obtain ⟨hF, hx⟩ := forall2_unappend hl' hD'
          obtain ⟨hx1, hx2, hx3, hx4, hx5⟩ : d.1 = x.k ∧ d.2.1 = x.t ∧ d.2.2.1 = x.v ∧ d.2.2.2.1 = x.c ∧ RN w0 (slV d.2.2.2.2) x.A := by cases hx with | cons a _ => exact a
          obtain ⟨dk, dt, dv, dc, sp, sl, sc⟩ := d
          simp only at hx1 hx2 hx3 hx4
          subst hx1; subst hx2; subst hx3; subst hx4
          have hro := own_rowO hown
          obtain ⟨po, co, hvo, hco1, hco2, hco3⟩ := hro
          obtain ⟨bo, oo, rfl, hat⟩ := hco3 FD.length (x.k, x.t, x.v, x.c, sp, sl, sc) (by simp)
          obtain ⟨c0, c1, c2, c3, c4, c5, c6⟩ := hat
          rw [show (FD ++ [(x.k, x.t, x.v, x.c, sp, sl, sc)]).length = FD.length + 1 by simp] at hvo hco1
          subst hvo
          have hlA : sl = x.A.length := by
            obtain ⟨q, cc, e1, _⟩ := hx5.row
            simp only [slV, Value.slice.injEq] at e1
            exact e1.2.1
          have cP := plain6_any x sp sl sc wr hlA
          have HB := Hid.mk' hb
          have HO := Hid.mk' hown
          have HRF : Hid (FarO wr w.heap.size (.slice (some ⟨bo, oo, none⟩) FD.length co) FD ∧ ReD w0 FD F) := ⟨far_own hown rfl (fun j d hd => by rw [List.getElem?_append_left (List.getElem?_eq_some_iff.1 hd).1]; exact hd) (by simp), hF⟩
          have HRX : Hid (FarO wr w.heap.size (.slice (some ⟨bo, oo, none⟩) (FD.length + 1) co) (FD ++ [(x.k, x.t, x.v, x.c, sp, sl, sc)]) ∧ ReD w0 (FD ++ [(x.k, x.t, x.v, x.c, sp, sl, sc)]) (F ++ [x])) := ⟨by have h := far_own hown rfl (F := FD ++ [(x.k, x.t, x.v, x.c, sp, sl, sc)]) (fun _ _ h => h) (Nat.le_refl _); rw [show (FD ++ [(x.k, x.t, x.v, x.c, sp, sl, sc)]).length = FD.length + 1 by simp] at h; exact h, forall2_append hF hx⟩
          have hFl : FD.length ≤ 4194304 := by simp at hq; omega
          obtain ⟨fl, hfl⟩ : ∃ y, FD.length = y := ⟨_, rfl⟩
          rw [hfl] at HRF HRX hFl hco1 c0 c1 c2 c3 c4 c5 c6 ⊢
          clear hco3 hco2 hx5 hx hF hl' hlen hD' hown hb hq hfl HO hmn hlt hm hlA
          have hf0 : (0 : Int) < (fl : Int) + 1 := by omega
          have hf1 : (fl : Int) + 1 - 1 = (fl : Int) := by omega
          have hf2 : (0 : Int) ≤ (fl : Int) := by omega
          cases hp : plainR x with
          | true =>
            rw [trim_yes hp] at hcan
            have HC := Hid.mk' hcan
            rw [hp] at cP
            clear HRX hp hcan
            obtain ⟨k, t, ⟨xx, nn, u⟩, cc, A⟩ := x
            simp only [slV] at c0 c1 c2 c3 c4 c5 c6 cP
            go_wp2_with fail
            refine cP.mono ?_; rintro r w1 ⟨rfl, hb1⟩
            have HB1 : Hid (Below w.heap.size w w1) := HB.out.trans (hb1.mono HB.out.size)
            have HR1 := Hid.mk' (And.intro (HRF.out.1.below hb1) HRF.out.2)
            clear cP c0 c1 c2 c3 c4 c5 c6 HRF HB hb1
            go_wp2
            go_ret
            exact ⟨_, rfl, ⟨_, HR1.out.1, by rw [HC.out]; exact HR1.out.2⟩, HB1.out⟩
          | false =>
            rw [trim_no hp] at hcan
            have HC := Hid.mk' hcan
            rw [hp] at cP
            clear HRF hp hcan
            obtain ⟨k, t, ⟨xx, nn, u⟩, cc, A⟩ := x
            simp only [slV] at c0 c1 c2 c3 c4 c5 c6 cP
            go_wp2_with fail
            refine cP.mono ?_; rintro r w1 ⟨rfl, hb1⟩
            have HB1 : Hid (Below w.heap.size w w1) := HB.out.trans (hb1.mono HB.out.size)
            have HR1 := Hid.mk' (And.intro (HRX.out.1.below hb1) HRX.out.2)
            clear cP c0 c1 c2 c3 c4 c5 c6 HRX HB hb1
            go_wp2
            go_ret
            exact ⟨_, rfl, ⟨_, HR1.out.1, by rw [HC.out]; exact HR1.out.2⟩, HB1.out⟩
end Go.Proofs.YtalfdjglbbmjcabGreatDoor

/- The document's op, Doc, Of, SameList of layer 9. -/
namespace Go.Proofs.YtalfdjglbbmjcabGreatDoor
open Go Go.RowKit Go.Lib
set_option linter.unusedVariables false

instance instDecC5 : DecidableEq C5 := fun a b => by unfold C5 at a b; exact inferInstance
instance instDecLC5 : DecidableEq (List C5) := fun a b => by exact instDecidableEqList a b
theorem take_snoc9 {α : Type} {E E' : List α} {k : Nat} {e e' : α} (h : E.take k = E'.take k) (h1 : E[k]? = some e) (h2 : E'[k]? = some e') (h3 : e = e') : E.take (k + 1) = E'.take (k + 1) := by
  rw [List.take_add_one, List.take_add_one, h, h1, h2, h3]
theorem ne_at9 {α : Type} {E E' : List α} {k : Nat} {e e' : α} (h1 : E[k]? = some e) (h2 : E'[k]? = some e') (h3 : ¬ e = e') : ¬ E = E' := fun h => by
  rw [h, h2] at h1
  exact h3 (Option.some.inj h1).symm
theorem ce_of {w : World} {d : CV} {e : C5} (h : d.1 = e.1 ∧ d.2.1 = e.2.1 ∧ d.2.2.1 = e.2.2.1 ∧ RN w (slV d.2.2.2) e.2.2.2) : ceV d = ceP e (slV d.2.2.2) := by
  obtain ⟨dk, dt, dv, ds⟩ := d
  obtain ⟨x1, x2, x3, _⟩ := h
  simp only at x1 x2 x3
  subst x1; subst x2; subst x3; rfl
set_option maxHeartbeats 2000000 in
set_option maxRecDepth 100000 in
theorem sameL9_any (v v' : Value) (D D' : List CV) (E E' : List C5) (w : World) (hrow : RowC w v D) (hrow' : RowC w v' D') (hre : Are w D E) (hre' : Are w D' E') (hl : E.length ≤ 2097152) (hl' : E'.length ≤ 2097152) (hA : ∀ e ∈ E, e.2.2.2.length ≤ 4194304) (hA' : ∀ e ∈ E', e.2.2.2.length ≤ 4194304) :
    Calls Tryz.prog 15 #[v, v'] w fun r w' => r = .returned (.bool (decide (E = E'))) ∧ Below w.heap.size w w' := by
  have hE := forall2_len hre
  have hE' := forall2_len hre'
  obtain ⟨n, hn⟩ : ∃ n, D.length = n := ⟨_, rfl⟩
  obtain ⟨m, hm⟩ : ∃ m, D'.length = m := ⟨_, rfl⟩
  obtain ⟨pa, ca, rfl, ha, _, hca⟩ := hrow
  obtain ⟨pb, cb, rfl, hb, _, hcb⟩ := hrow'
  rw [hn] at ha hE ⊢
  rw [hm] at hb hE' ⊢
  have HN : Hid (D.length = n ∧ D'.length = m ∧ E.length = n ∧ E'.length = m) := ⟨hn, hm, hE.symm, hE'.symm⟩
  by_cases hnm : n = m
  · subst hnm
    have HA : Hid (D ≠ [] → ∃ b off, pa = some ⟨b, off, none⟩ ∧ InC w b off D) := hca
    have HB : Hid (D' ≠ [] → ∃ b off, pb = some ⟨b, off, none⟩ ∧ InC w b off D') := hcb
    have hl : n ≤ 2097152 := by omega
    have CC : Hid (∀ (k : Nat) d d', D[k]? = some d → D'[k]? = some d' → ∃ e e', E[k]? = some e ∧ E'[k]? = some e' ∧ ∀ W, Below w.heap.size w W → Calls Tryz.prog 27 #[ceV d, ceV d'] W fun r w' => r = .returned (.bool (decide (e = e'))) ∧ Below W.heap.size W w') := fun k d d' h1 h2 => by
      obtain ⟨y, hy, r1⟩ := forall2_get hre k d h1
      obtain ⟨y', hy', r2⟩ := forall2_get hre' k d' h2
      refine ⟨y, y', hy, hy', fun W hW => ?_⟩
      rw [ce_of r1, ce_of r2]
      exact sameR9_any y y' _ _ W (r1.2.2.2.below hW).row (r2.2.2.2.below hW).row (hA y (List.mem_of_getElem? hy)) (hA' y' (List.mem_of_getElem? hy'))
    clear hca hcb hn hm hre hre' hE hE' hA hA' hl'
    go_enter Tryz.func15, Tryz.ntmps15
    go_wp2
    go_loopw [13, 5] (fun i _ wr => ∃ (k : Nat), k ≤ n ∧ i = .int .i64 k ∧ Hid (E.take k = E'.take k) ∧ Below w.heap.size w wr) (fun i _ _ => n - (RowKit.intOf i).toNat)
    case atStart => exact ⟨0, Nat.zero_le _, rfl, rfl, Below.refl _ _⟩
    case round =>
      obtain ⟨k, hk, rfl, HT, hbw⟩ := hrel
      by_cases hlt : k < n
      · have hltI : (k : Int) < n := by omega
        obtain ⟨d, hd⟩ : ∃ q, D[k]? = some q := ⟨_, List.getElem?_eq_getElem (by rw [HN.out.1]; exact hlt)⟩
        obtain ⟨d', hd'⟩ : ∃ q, D'[k]? = some q := ⟨_, List.getElem?_eq_getElem (by rw [HN.out.2.1]; exact hlt)⟩
        obtain ⟨e, e', he, he', cc⟩ := CC.out k d d' hd hd'
        obtain ⟨b, off, rfl, hin⟩ := HA.out (by intro e; rw [e] at hd; simp at hd)
        obtain ⟨b', off', rfl, hin'⟩ := HB.out (by intro e; rw [e] at hd'; simp at hd')
        obtain ⟨x0, x1, x2, x3, x4, x5⟩ := cellsC_get D k d hd
        obtain ⟨y0, y1, y2, y3, y4, y5⟩ := cellsC_get D' k d' hd'
        have c0 := (hin.below hbw) _ _ x0
        have c1 := (hin.below hbw) _ _ x1
        have c2 := (hin.below hbw) _ _ x2
        have c3 := (hin.below hbw) _ _ x3
        have c4 := (hin.below hbw) _ _ x4
        have c5 := (hin.below hbw) _ _ x5
        have d0 := (hin'.below hbw) _ _ y0
        have d1 := (hin'.below hbw) _ _ y1
        have d2 := (hin'.below hbw) _ _ y2
        have d3 := (hin'.below hbw) _ _ y3
        have d4 := (hin'.below hbw) _ _ y4
        have d5 := (hin'.below hbw) _ _ y5
        simp only [← Nat.add_assoc] at c0 c1 c2 c3 c4 c5 d0 d1 d2 d3 d4 d5
        have HEE : Hid (E[k]? = some e ∧ E'[k]? = some e') := ⟨he, he'⟩
        clear x0 x1 x2 x3 x4 x5 y0 y1 y2 y3 y4 y5 hin hin' hd hd' he he'
        obtain ⟨f, t, ⟨x, z, u⟩, p, j, c⟩ := d
        obtain ⟨f', t', ⟨x', z', u'⟩, p', j', c'⟩ := d'
        simp only [slV] at c0 c1 c2 c3 c4 c5 d0 d1 d2 d3 d4 d5
        simp only [ceV, slV] at cc
        have HU : Hid (∀ w', Below wr.drew.heap.size wr.drew w' → (w'.cell? ⟨b, off + k * 6, none⟩ = some (.int .i32 f) ∧ w'.cell? ⟨b, off + k * 6 + 1, none⟩ = some (.string t) ∧ w'.cell? ⟨b, off + k * 6 + 2, none⟩ = some (.int .i64 x) ∧ w'.cell? ⟨b, off + k * 6 + 3, none⟩ = some (.int .i64 z) ∧ w'.cell? ⟨b, off + k * 6 + 4, none⟩ = some (.string u) ∧ w'.cell? ⟨b, off + k * 6 + 5, none⟩ = some (.slice p j c) ∧ w'.cell? ⟨b', off' + k * 6, none⟩ = some (.int .i32 f') ∧ w'.cell? ⟨b', off' + k * 6 + 1, none⟩ = some (.string t') ∧ w'.cell? ⟨b', off' + k * 6 + 2, none⟩ = some (.int .i64 x') ∧ w'.cell? ⟨b', off' + k * 6 + 3, none⟩ = some (.int .i64 z') ∧ w'.cell? ⟨b', off' + k * 6 + 4, none⟩ = some (.string u') ∧ w'.cell? ⟨b', off' + k * 6 + 5, none⟩ = some (.slice p' j' c'))) := fun w' hb => ⟨(hb.cell (lt_of_cell (w := wr.drew) c0)).trans c0, (hb.cell (lt_of_cell (w := wr.drew) c1)).trans c1, (hb.cell (lt_of_cell (w := wr.drew) c2)).trans c2, (hb.cell (lt_of_cell (w := wr.drew) c3)).trans c3, (hb.cell (lt_of_cell (w := wr.drew) c4)).trans c4, (hb.cell (lt_of_cell (w := wr.drew) c5)).trans c5, (hb.cell (lt_of_cell (w := wr.drew) d0)).trans d0, (hb.cell (lt_of_cell (w := wr.drew) d1)).trans d1, (hb.cell (lt_of_cell (w := wr.drew) d2)).trans d2, (hb.cell (lt_of_cell (w := wr.drew) d3)).trans d3, (hb.cell (lt_of_cell (w := wr.drew) d4)).trans d4, (hb.cell (lt_of_cell (w := wr.drew) d5)).trans d5⟩
        have hz0 : w.heap.size ≤ wr.drew.heap.size := hbw.size
        obtain ⟨q, hq⟩ : ∃ q, decide (e = e') = q := ⟨_, rfl⟩
        rw [hq] at cc
        have HQ : Hid (decide (e = e') = q) := hq
        clear hq
        cases q with
        | true =>
          have HT2 : Hid (E.take (k + 1) = E'.take (k + 1)) := take_snoc9 HT.out HEE.out.1 HEE.out.2 (of_decide_eq_true HQ.out)
          go_wp2_with fail
          go_region_held3 (fun w' => (w'.cell? ⟨b, off + k * 6, none⟩ = some (.int .i32 f) ∧ w'.cell? ⟨b, off + k * 6 + 1, none⟩ = some (.string t) ∧ w'.cell? ⟨b, off + k * 6 + 2, none⟩ = some (.int .i64 x) ∧ w'.cell? ⟨b, off + k * 6 + 3, none⟩ = some (.int .i64 z) ∧ w'.cell? ⟨b, off + k * 6 + 4, none⟩ = some (.string u) ∧ w'.cell? ⟨b, off + k * 6 + 5, none⟩ = some (.slice p j c) ∧ w'.cell? ⟨b', off' + k * 6, none⟩ = some (.int .i32 f') ∧ w'.cell? ⟨b', off' + k * 6 + 1, none⟩ = some (.string t') ∧ w'.cell? ⟨b', off' + k * 6 + 2, none⟩ = some (.int .i64 x') ∧ w'.cell? ⟨b', off' + k * 6 + 3, none⟩ = some (.int .i64 z') ∧ w'.cell? ⟨b', off' + k * 6 + 4, none⟩ = some (.string u') ∧ w'.cell? ⟨b', off' + k * 6 + 5, none⟩ = some (.slice p' j' c')) ∧ Below w.heap.size w w')
            (exact ⟨by first | (with_reducible assumption) | (simp [*]; done), by first | (with_reducible assumption) | exact hbw.drew⟩)
            (first | (go_at_call 27; refine (cc _ ?_).mono ?_; (· first | assumption | exact hbw.drew | (apply And.right; assumption)); rintro r w3 ⟨rfl, b3⟩; have b4 : Below w.heap.size w w3 := (hbw.drew).trans (b3.mono hz0); have mm := HU.out _ b3))
          clear cc mm b3
          go_wp2
          go_roundw
          case rel => exact ⟨k + 1, by omega, by go_num, HT2, b4⟩
          case measure => simp [RowKit.intOf]; omega
        | false =>
          have hfin : Hid (decide (E = E') = false) := decide_eq_false (ne_at9 HEE.out.1 HEE.out.2 (of_decide_eq_false HQ.out))
          go_wp2_with fail
          go_region_held3 (fun w' => (w'.cell? ⟨b, off + k * 6, none⟩ = some (.int .i32 f) ∧ w'.cell? ⟨b, off + k * 6 + 1, none⟩ = some (.string t) ∧ w'.cell? ⟨b, off + k * 6 + 2, none⟩ = some (.int .i64 x) ∧ w'.cell? ⟨b, off + k * 6 + 3, none⟩ = some (.int .i64 z) ∧ w'.cell? ⟨b, off + k * 6 + 4, none⟩ = some (.string u) ∧ w'.cell? ⟨b, off + k * 6 + 5, none⟩ = some (.slice p j c) ∧ w'.cell? ⟨b', off' + k * 6, none⟩ = some (.int .i32 f') ∧ w'.cell? ⟨b', off' + k * 6 + 1, none⟩ = some (.string t') ∧ w'.cell? ⟨b', off' + k * 6 + 2, none⟩ = some (.int .i64 x') ∧ w'.cell? ⟨b', off' + k * 6 + 3, none⟩ = some (.int .i64 z') ∧ w'.cell? ⟨b', off' + k * 6 + 4, none⟩ = some (.string u') ∧ w'.cell? ⟨b', off' + k * 6 + 5, none⟩ = some (.slice p' j' c')) ∧ Below w.heap.size w w')
            (exact ⟨by first | (with_reducible assumption) | (simp [*]; done), by first | (with_reducible assumption) | exact hbw.drew⟩)
            (first | (go_at_call 27; refine (cc _ ?_).mono ?_; (· first | assumption | exact hbw.drew | (apply And.right; assumption)); rintro r w3 ⟨rfl, b3⟩; have b4 : Below w.heap.size w w3 := (hbw.drew).trans (b3.mono hz0); have mm := HU.out _ b3))
          clear cc mm b3
          go_wp2
          go_ret
          exact ⟨by rw [hfin.out]; rfl, b4⟩
      · have hltI : ¬ (k : Int) < n := by omega
        have hfin : Hid (decide (E = E') = true) := decide_eq_true (by
          have := HT.out
          rwa [List.take_of_length_le (by rw [HN.out.2.2.1]; omega), List.take_of_length_le (by rw [HN.out.2.2.2]; omega)] at this)
        go_wp2
        go_ret
        exact ⟨by rw [hfin.out]; rfl, hbw⟩
  · have hne : ((n : Int) != m) = true := by simp; omega
    have hfin : Hid (decide (E = E') = false) := decide_eq_false (fun h => hnm (by rw [← HN.out.2.2.1, ← HN.out.2.2.2, h]))
    clear hca hcb hn hm hre hre' hE hE' hA hA' hnm HN hl hl'
    go_enter Tryz.func15, Tryz.ntmps15
    go_wp2
    go_ret
    exact ⟨by rw [hfin.out]; rfl, Below.refl _ _⟩

set_option maxHeartbeats 2000000 in
theorem op9_any (e : C5) (p : Option Addr) (l c : Nat) (w : World) (hb : ¬ badC e) :
    Calls Tryz.prog 70 #[ceP e (.slice p l c)] w fun r w' => r = .returned (opV (opOf e) (.slice p l c)) ∧ Below w.heap.size w w' := by
  obtain ⟨k, t, ⟨x, n, u⟩, A⟩ := e
  have b0 := (Below.refl w.heap.size w).alloc (Nat.le_refl _) (.cells (ceA (k, t, (x, n, u), A) (.slice p l c)) 30)
  simp only [ceA] at b0
  by_cases hk : k = -1
  · subst hk
    rw [show opOf (-1, t, (x, n, u), A) = ⟨2, t, (x, n, u), 0, A⟩ from rfl]
    clear hb
    go_enter Tryz.func70, Tryz.ntmps70
    go_wp2
    exact bodyPost_ret (v := opV ⟨2, t, (x, n, u), 0, A⟩ (.slice p l c)) (by simp [results, Tryz.results70, go_sem]) rfl ⟨rfl, by go_grown⟩
  · have h1 : isScal k ∧ t = ⟨#[]⟩ ∧ ((x, n, u) : P3) = z0 := by
      unfold badC at hb
      simp only [ne_eq, not_and, not_or, Decidable.not_not] at hb
      exact hb hk
    obtain ⟨h1, rfl, h3⟩ := h1
    simp only [z0, Prod.mk.injEq] at h3
    obtain ⟨rfl, rfl, rfl⟩ := h3
    obtain ⟨r, rfl, hr⟩ := scal_of h1
    rw [show opOf ((r : Int), ⟨#[]⟩, (0, 0, ⟨#[]⟩), A) = ⟨1, ⟨(enc r).toArray⟩, z0, 0, A⟩ from opOf_scal hr A]
    have hr1 : ((r : Int) == -1) = false := by rw [beq_eq_false_iff_ne]; omega
    have henc := encU_eq hr
    obtain ⟨t0, ht0⟩ : ∃ t0, (⟨(enc r).toArray⟩ : ByteArray) = t0 := ⟨_, rfl⟩
    rw [ht0] at henc ⊢
    clear hb h1 hr hk ht0
    go_enter Tryz.func70, Tryz.ntmps70
    go_wp2
    exact bodyPost_ret (v := opV ⟨1, t0, z0, 0, A⟩ (.slice p l c)) (by simp [results, Tryz.results70, go_sem, z0]) rfl ⟨rfl, by go_grown⟩
set_option maxHeartbeats 4000000 in
set_option maxRecDepth 100000 in
theorem doc9_any {w0 : World} (v : Value) (D0 : List CV) (E : List C5) (w : World) (hb0 : Below w0.heap.size w0 w) (hrow : RowC w v D0) (hre : Are w0 D0 E) (hg : ∀ e ∈ E, celE e = 0) (ok : OkE (E.map opOf)) (hl : E.length ≤ 1048576) :
    Calls Tryz.prog 44 #[v] w fun r w' => ∃ lv, r = .returned lv ∧ (∃ D', FarO w' w.heap.size lv D' ∧ ReD w0 D' (docOf E)) ∧ Below w.heap.size w w' := by
  have hDE := forall2_len hre
  obtain ⟨n, hn⟩ : ∃ n, D0.length = n := ⟨_, rfl⟩
  obtain ⟨p, cap, rfl, hcap, hnz, hc⟩ := hrow
  have HC : Hid (D0 ≠ [] → ∃ b off, p = some ⟨b, off, none⟩ ∧ InC w b off D0) := hc
  have HN : Hid (D0.length = n ∧ E.length = n) := ⟨hn, by rw [← hDE, hn]⟩
  have HE : Hid (Are w0 D0 E ∧ (∀ e ∈ E, celE e = 0) ∧ OkE (E.map opOf)) := ⟨hre, hg, ok⟩
  have hl : n ≤ 1048576 := by rw [← hn, hDE]; exact hl
  have HB0 : Hid (Below w0.heap.size w0 w) := hb0
  rw [hn] at hcap ⊢
  clear hc hn hDE hre hg ok hnz hb0
  have o0 := own_emptyO w w.heap.size (Nat.le_refl _)
  have b0 := (Below.refl w.heap.size w).alloc (Nat.le_refl _) (.cells #[] 69)
  obtain ⟨W0, hW0⟩ : ∃ W, W = w.alloc (.cells #[] 69) := ⟨_, rfl⟩
  obtain ⟨v0, hv0⟩ : ∃ v0 : Value, v0 = .slice (some ⟨w.heap.size, 0, none⟩) 0 0 := ⟨_, rfl⟩
  rw [← hW0, ← hv0] at o0
  rw [← hW0] at b0
  go_enter Tryz.func44, Tryz.ntmps44
  go_wp2
  rw [← hW0, ← hv0]
  clear hW0 hv0
  go_loopw [3, 9] (fun o i wr => ∃ (k : Nat) (D : List OV), k ≤ n ∧ i = .int .i64 k ∧ Hid (OwnO wr w.heap.size o D ∧ ReD w0 D ((E.take k).map opOf) ∧ D.length = k) ∧ Below w.heap.size w wr) (fun _ i _ => n - (RowKit.intOf i).toNat)
  case atStart => exact ⟨0, [], Nat.zero_le _, rfl, ⟨o0, by rw [List.take_zero]; exact .nil, rfl⟩, b0⟩
  case round =>
    clear o0 b0
    obtain ⟨k, D, hk, rfl, HD, hbw⟩ := hrel
    by_cases hlt : k < n
    · have hltI : (k : Int) < n := by omega
      obtain ⟨d, hd⟩ : ∃ d, D0[k]? = some d := ⟨_, List.getElem?_eq_getElem (by rw [HN.out.1]; exact hlt)⟩
      obtain ⟨e, he, hr⟩ := forall2_get HE.out.1 k d hd
      obtain ⟨b, off, rfl, hin⟩ := HC.out (by intro e; rw [e] at hd; simp at hd)
      obtain ⟨x0, x1, x2, x3, x4, x5⟩ := cellsC_get D0 k d hd
      have c0 := (hin.below hbw) _ _ x0
      have c1 := (hin.below hbw) _ _ x1
      have c2 := (hin.below hbw) _ _ x2
      have c3 := (hin.below hbw) _ _ x3
      have c4 := (hin.below hbw) _ _ x4
      have c5 := (hin.below hbw) _ _ x5
      simp only [← Nat.add_assoc] at c0 c1 c2 c3 c4 c5
      have hgd := HE.out.2.1 e (List.mem_of_getElem? he)
      have cS := op9_any e d.2.2.2.1 d.2.2.2.2.1 d.2.2.2.2.2 (wr.alloc (.cells (ceC d) 30)) (not_bad hgd)
      rw [show ceP e (.slice d.2.2.2.1 d.2.2.2.2.1 d.2.2.2.2.2) = ceV d from (ce_of hr).symm] at cS
      have HT : Hid (E.take (k + 1) = E.take k ++ [e]) := by show _ = _; rw [List.take_add_one, he]; rfl
      have HR : Hid (RN w0 (slV d.2.2.2) (opOf e).A) := by show RN _ _ _; rw [opOf_A]; exact hr.2.2.2
      obtain ⟨o, ho⟩ : ∃ o, opOf e = o := ⟨_, rfl⟩
      have HOE : Hid (opOf e = o) := ho
      rw [ho] at cS HR
      have bw : Below wr.heap.size wr (wr.alloc (.cells (ceC d) 30)) := (Below.refl _ _).alloc (Nat.le_refl _) _
      clear hd he hr hin x0 x1 x2 x3 x4 x5 hgd ho
      obtain ⟨dk, dt, ⟨dx, dn, du⟩, ds⟩ := d
      obtain ⟨dp, dl, dcap⟩ := ds
      obtain ⟨ok, ot, ⟨ox, on, ou⟩, oc, oA⟩ := o
      simp only [slV, ceC, ceV] at c0 c1 c2 c3 c4 c5 cS bw HR
      go_wp2_with fail
      refine cS.mono ?_; rintro r w5 ⟨rfl, hb5⟩
      have b5 := bw.trans (hb5.mono bw.size)
      have ba : Below w5.heap.size w5 (w5.alloc (.cells #[.int .i64 ok, .string ot, .int .i64 ox, .int .i64 on, .string ou, .int .i64 oc, .slice dp dl dcap] 69)) := (Below.refl _ _).alloc (Nat.le_refl _) _
      have b6 := b5.trans (ba.mono b5.size)
      have HO7 : Hid (OwnO (w5.alloc (.cells #[.int .i64 ok, .string ot, .int .i64 ox, .int .i64 on, .string ou, .int .i64 oc, .slice dp dl dcap] 69)) w.heap.size u3 D ∧ OpAt (w5.alloc (.cells #[.int .i64 ok, .string ot, .int .i64 ox, .int .i64 on, .string ou, .int .i64 oc, .slice dp dl dcap] 69)) w5.heap.size 0 (ok, ot, (ox, on, ou), oc, dp, dl, dcap)) := ⟨owns_below HD.out.1 b6, ⟨by simp, by simp, by simp, by simp, by simp, by simp, by simp⟩⟩
      have HP7 : Hid (ReD w0 (D ++ [(ok, ot, (ox, on, ou), oc, dp, dl, dcap)]) ((E.take (k + 1)).map opOf) ∧ (D ++ [(ok, ot, (ox, on, ou), oc, dp, dl, dcap)]).length = k + 1) := by
        refine ⟨?_, by rw [List.length_append, HD.out.2.2]; rfl⟩
        rw [HT.out, List.map_append]
        exact forall2_append HD.out.2.1 (.cons (by rw [HOE.out]; exact ⟨rfl, rfl, rfl, rfl, HR.out⟩) .nil)
      have hge : Hid (∀ j, u3.ownBlock = some j → w.heap.size ≤ j) := fun j hj => (owns_block HD.out.1 j hj).1
      have bw7 := hbw.trans (b6.mono hbw.size)
      have hlen : D.length ≤ 33554432 := by have := HD.out.2.2; omega
      clear HD HT HR HOE cS bw hb5 b5 ba b6 c0 c1 c2 c3 c4 c5
      go_wp2_with (at_builtin; refine wpList_append_ops rfl (.tmp 13) (.tmp 16) rfl w.heap.size u3 D rfl HO7.out.1 w5.heap.size 1 _ rfl HO7.out.2 hlen bw7.size ?_; intro v8 w8 own8 gr8 hat8)
      have b8 := bw7.grown gr8 bw7.size (fun j hj => hge.out j hj)
      go_roundw
      case rel => exact ⟨k + 1, _, by omega, by go_num, ⟨own8, HP7.out.1, HP7.out.2⟩, b8⟩
      case measure => simp [RowKit.intOf]; omega
    · have hltI : ¬ (k : Int) < n := by omega
      have hE : E.take k = E := List.take_of_length_le (by rw [HN.out.2]; omega)
      obtain ⟨h1, h2, h3⟩ := HD.out
      rw [hE] at h2
      have cD := canon6_any (w0 := w0) u3 D (E.map opOf) wr (HB0.out.trans (hbw.mono HB0.out.size)) (own_rowO h1) h2 HE.out.2.2
      clear h1 h2 h3 HD hE
      go_wp2_with fail
      refine cD.mono ?_; rintro r w5 ⟨lv, rfl, ⟨D', hf, hr'⟩, hb5⟩
      have b5 := hbw.trans (hb5.mono hbw.size)
      have HF : Hid (∃ D', FarO w5 w.heap.size lv D' ∧ ReD w0 D' (docOf E)) := ⟨D', hf.weaken hbw.size, hr'⟩
      clear cD hf hr' hb5
      go_wp2
      go_ret
      exact ⟨lv, rfl, HF.out, b5⟩
set_option maxHeartbeats 4000000 in
set_option maxRecDepth 100000 in
theorem refOf9_any {I : List Nat} {a : Nat → Addr} {w0 : World} (v : Value) (D0 : List CV) (E : List C5) (w : World) (hS : Std I a w) (hb0 : Below w0.heap.size w0 w) (hrow : RowC w v D0) (hre : Are w0 D0 E) (hF : ∀ e ∈ E, FitC e) (hl : E.length ≤ 1048576) (ht : txtS (E.map opOf) ≤ 8388608) :
    Calls Tryz.prog 14 #[v] w fun r w' => ∃ lv, r = .returned (.tuple #[lv, .int .i64 (celP E).1, .int .i64 (celP E).2]) ∧ ((celP E).2 = 0 → ∃ D', FarO w' w.heap.size lv D' ∧ ReD w0 D' (docOf E)) ∧ ((celP E).2 ≠ 0 → lv = .slice none 0 0) ∧ Below w.heap.size w w' := by
  have hDE := forall2_len hre
  obtain ⟨n, hn⟩ : ∃ n, D0.length = n := ⟨_, rfl⟩
  have HW : Hid (RowC w v D0 ∧ Are w0 D0 E ∧ (∀ e ∈ E, FitC e) ∧ txtS (E.map opOf) ≤ 8388608) := ⟨hrow, hre, hF, ht⟩
  have HB0 : Hid (Below w0.heap.size w0 w) := hb0
  obtain ⟨p, cap, rfl, hcap, hnz, hc⟩ := hrow
  have HC : Hid (D0 ≠ [] → ∃ b off, p = some ⟨b, off, none⟩ ∧ InC w b off D0) := hc
  have HN : Hid (D0.length = n ∧ E.length = n) := ⟨hn, by rw [← hDE, hn]⟩
  have hl : n ≤ 1048576 := by rw [← hn, hDE]; exact hl
  have HK : Hid (∀ W (k : Nat) d e, Below w.heap.size w W → D0[k]? = some d → E[k]? = some e → Calls Tryz.prog 12 #[ceV d] W fun r w' => r = .returned (.int .i64 (celE e)) ∧ Below W.heap.size W w') := fun W k d e hW h1 h2 => by
    obtain ⟨y, hy, r1⟩ := forall2_get hre k d h1
    obtain rfl : y = e := Option.some.inj (hy.symm.trans h2)
    rw [ce_of r1]
    exact checkR9_any y _ _ _ W (hS.below hW) ((r1.2.2.2.below hb0).below hW) (hF y (List.mem_of_getElem? hy))
  have HE : Hid (∀ k d, D0[k]? = some d → ∃ e, E[k]? = some e) := fun k d h => by obtain ⟨y, hy, _⟩ := forall2_get hre k d h; exact ⟨y, hy⟩
  rw [hn] at hcap HW ⊢
  clear hc hn hDE hre hnz hF hS ht hb0
  go_enter Tryz.func14, Tryz.ntmps14
  go_wp2
  go_loopw [10] (fun i wr => ∃ (k : Nat), k ≤ n ∧ i = .int .i64 k ∧ Hid (∀ e ∈ E.take k, celE e = 0) ∧ Below w.heap.size w wr) (fun i _ => n - (RowKit.intOf i).toNat)
  case atStart => exact ⟨0, Nat.zero_le _, rfl, fun e he => (by rw [List.take_zero] at he; cases he), Below.refl _ _⟩
  case round =>
    obtain ⟨k, hk, rfl, HO, hbw⟩ := hrel
    by_cases hlt : k < n
    · have hltI : (k : Int) < n := by omega
      obtain ⟨d, hd⟩ : ∃ d, D0[k]? = some d := ⟨_, List.getElem?_eq_getElem (by rw [HN.out.1]; exact hlt)⟩
      obtain ⟨e, he⟩ := HE.out k d hd
      obtain ⟨b, off, rfl, hin⟩ := HC.out (by intro e; rw [e] at hd; simp at hd)
      obtain ⟨x0, x1, x2, x3, x4, x5⟩ := cellsC_get D0 k d hd
      have c0 := (hin.below hbw) _ _ x0
      have c1 := (hin.below hbw) _ _ x1
      have c2 := (hin.below hbw) _ _ x2
      have c3 := (hin.below hbw) _ _ x3
      have c4 := (hin.below hbw) _ _ x4
      have c5 := (hin.below hbw) _ _ x5
      simp only [← Nat.add_assoc] at c0 c1 c2 c3 c4 c5
      have bw : Below wr.heap.size wr (wr.alloc (.cells (ceC d) 30)) := (Below.refl _ _).alloc (Nat.le_refl _) _
      have ba : Below w.heap.size w (wr.alloc (.cells (ceC d) 30)) := hbw.trans (bw.mono hbw.size)
      have cP := HK.out _ k d e ba hd he
      have HT : Hid (E.take (k + 1) = E.take k ++ [e] ∧ E[k]? = some e) := by refine ⟨?_, he⟩; rw [List.take_add_one, he]; rfl
      obtain ⟨rz, hrz⟩ : ∃ z, celE e = z := ⟨_, rfl⟩
      rw [hrz] at cP
      cases rz with
      | zero =>
        have HO2 : Hid (∀ e ∈ E.take (k + 1), celE e = 0) := by
          show ∀ e ∈ E.take (k + 1), celE e = 0
          rw [HT.out.1]
          intro y hy
          rcases List.mem_append.1 hy with hy | hy
          · exact HO.out y hy
          · rw [List.mem_singleton.1 hy]; exact hrz
        clear HO hin hd he hrz HT x0 x1 x2 x3 x4 x5 bw
        obtain ⟨dk, dt, ⟨dx, dn, du⟩, ds⟩ := d
        obtain ⟨dp, dl, dcap⟩ := ds
        simp only [slV, ceC, ceV] at c0 c1 c2 c3 c4 c5 cP ba
        go_wp2_with fail
        refine cP.mono ?_; rintro r w5 ⟨rfl, h5⟩
        have b5 : Below w.heap.size w w5 := ba.trans (h5.mono ba.size)
        clear cP c0 c1 c2 c3 c4 c5 ba h5
        go_wp2
        go_roundw
        case rel => exact ⟨k + 1, by omega, by go_num, HO2, b5⟩
        case measure => simp [RowKit.intOf]; omega
      | succ x =>
        have HB : Hid (celP E = (k, x + 1)) := by
          have := cel_at he HO.out (by rw [hrz]; omega)
          rw [hrz] at this
          exact this
        obtain ⟨xx, hxx⟩ : ∃ xx : Int, ((x + 1 : Nat) : Int) = xx := ⟨_, rfl⟩
        have hx0 : (xx != 0) = true := by rw [bne_iff_ne]; omega
        have HXX : Hid (((x + 1 : Nat) : Int) = xx) := hxx
        rw [hxx] at cP
        clear HO hin hd he hrz HT x0 x1 x2 x3 x4 x5 bw hxx
        obtain ⟨dk, dt, ⟨dx, dn, du⟩, ds⟩ := d
        obtain ⟨dp, dl, dcap⟩ := ds
        simp only [slV, ceC, ceV] at c0 c1 c2 c3 c4 c5 cP ba
        go_wp2_with fail
        refine cP.mono ?_; rintro r w5 ⟨rfl, hb5⟩
        have b5 := ba.trans (hb5.mono ba.size)
        clear cP c0 c1 c2 c3 c4 c5 ba hb5
        go_wp2
        go_ret3
        exact ⟨.slice none 0 0, by rw [HB.out, ← HXX.out]; rfl, fun h => (by rw [HB.out] at h; cases h), fun _ => rfl, b5⟩
    · have hltI : ¬ (k : Int) < n := by omega
      have hE : E.take k = E := List.take_of_length_le (by rw [HN.out.2]; omega)
      rw [hE] at HO
      have HB : Hid (celP E = (0, 0)) := cel_none HO.out
      have cD := doc9_any (w0 := w0) _ D0 E wr (HB0.out.trans (hbw.mono HB0.out.size)) (HW.out.1.below hbw) HW.out.2.1 HO.out (okE_cells HO.out HW.out.2.2.1 HW.out.2.2.2 (by rw [HN.out.2]; exact hl)) (by rw [HN.out.2]; exact hl)
      clear hE HO
      go_wp2_with fail
      refine cD.mono ?_; rintro r w5 ⟨lv, rfl, ⟨D', h5, h6⟩, hb5⟩
      have HFF : Hid (∃ D', FarO w5 w.heap.size lv D' ∧ ReD w0 D' (docOf E)) := ⟨D', h5.weaken hbw.size, h6⟩
      have b5 := hbw.trans (hb5.mono hbw.size)
      clear cD h5 h6 hb5
      go_wp2
      go_ret3
      exact ⟨lv, by rw [HB.out]; rfl, fun _ => HFF.out, fun h => absurd (by rw [HB.out]) h, b5⟩
end Go.Proofs.YtalfdjglbbmjcabGreatDoor

/- vellumlaw09.large, vellumlaw09.lives. -/
namespace Go.Proofs.YtalfdjglbbmjcabGreatDoor
open Go Go.RowKit Go.Lib
set_option linter.unusedVariables false

/-- How large a list of cells is. -/
def larC (E : List C5) : Int := (E.map fun e => 1 + (e.2.1.size : Int) + 10 * e.2.2.2.length).sum
theorem larC_append (E F : List C5) : larC (E ++ F) = larC E + larC F := by unfold larC; rw [List.map_append, List.sum_append]
theorem larC_one (e : C5) : larC [e] = 1 + (e.2.1.size : Int) + 10 * e.2.2.2.length := by simp [larC]
theorem larC_cons (e : C5) (r : List C5) : larC (e :: r) = 1 + (e.2.1.size : Int) + 10 * e.2.2.2.length + larC r := by simp [larC]
theorem larC_len : ∀ (E : List C5), (E.length : Int) ≤ larC E
  | [] => by simp [larC]
  | e :: r => by
    have := larC_len r
    rw [larC_cons, List.length_cons]
    omega
theorem larC_mem {e : C5} : ∀ {E : List C5}, e ∈ E → 1 + (e.2.1.size : Int) + 10 * e.2.2.2.length ≤ larC E
  | x :: r, h => by
    have h0 := larC_len r
    rw [larC_cons]
    rcases List.mem_cons.1 h with rfl | h
    · omega
    · have := larC_mem h; omega
theorem opOf_t (e : C5) : (opOf e).t.size ≤ 4 + e.2.1.size := by
  obtain ⟨k, t, v, A⟩ := e
  unfold opOf
  split
  · show t.size ≤ 4 + t.size; omega
  · have := enc_le4 ((Int.toNat k : Nat) : Int)
    show (⟨(enc k.toNat).toArray⟩ : ByteArray).size ≤ _
    have e2 : (⟨(enc k.toNat).toArray⟩ : ByteArray).size = (enc k.toNat).length := by simp [ByteArray.size]
    rw [e2]
    unfold enc
    omega
theorem larC_txt : ∀ (E : List C5), (txtS (E.map opOf) : Int) ≤ 4 * larC E
  | [] => by simp [larC, txtS]
  | e :: r => by
    have h := larC_txt r
    have h2 := opOf_t e
    rw [List.map_cons, txtS_cons, larC_cons]
    omega
theorem lightC {E : List C5} (h : decide (20000 < larC E) = false) : txtS (E.map opOf) ≤ 80000 ∧ E.length ≤ 20000 ∧ ∀ e ∈ E, e.2.2.2.length ≤ 2000 ∧ e.2.1.size ≤ 20000 := by
  have h0 := of_decide_eq_false h
  have h1 := larC_txt E
  have h2 := larC_len E
  refine ⟨by omega, by omega, fun e he => ?_⟩
  have := larC_mem he
  omega
set_option maxHeartbeats 2000000 in
set_option maxRecDepth 100000 in
theorem large9_any (v : Value) (D0 : List CV) (E : List C5) (w : World) (hrow : RowC w v D0) (hre : Are w D0 E) (hF : ∀ e ∈ E, e.2.1.size ≤ 1048576 ∧ e.2.2.2.length ≤ 1048576) (hl : E.length ≤ 1048576) :
    Calls Tryz.prog 8 #[v] w fun r w' => r = .returned (.bool (decide (20000 < larC E))) ∧ Below w.heap.size w w' := by
  have hDE := forall2_len hre
  obtain ⟨n, hn⟩ : ∃ n, D0.length = n := ⟨_, rfl⟩
  obtain ⟨p, cap, rfl, hcap, hnz, hc⟩ := hrow
  have HC : Hid (D0 ≠ [] → ∃ b off, p = some ⟨b, off, none⟩ ∧ InC w b off D0) := hc
  have HN : Hid (D0.length = n ∧ E.length = n) := ⟨hn, by rw [← hDE, hn]⟩
  have hl : n ≤ 1048576 := by rw [← hn, hDE]; exact hl
  have HF : Hid (∀ e ∈ E, e.2.1.size ≤ 1048576 ∧ e.2.2.2.length ≤ 1048576) := hF
  have HE : Hid (∀ (k : Nat) (d : CV), D0[k]? = some d → ∃ e : C5, E[k]? = some e ∧ d.2.1 = e.2.1 ∧ d.2.2.2.2.1 = e.2.2.2.length) := fun k d h => by
    obtain ⟨y, hy, r⟩ := forall2_get hre k d h
    obtain ⟨q, c, e1, _⟩ := r.2.2.2.row.val
    refine ⟨y, hy, r.2.1, ?_⟩
    simp only [slV, Value.slice.injEq] at e1
    exact e1.2.1
  rw [hn] at hcap ⊢
  clear hc hn hDE hre hnz hF
  go_enter Tryz.func8, Tryz.ntmps8
  go_wp2
  go_loopw [3, 8] (fun s i wr => ∃ (k : Nat) (z : Int), k ≤ n ∧ i = .int .i64 k ∧ s = .int .i64 z ∧ 0 ≤ z ∧ z ≤ 20000000 * k ∧ Hid (larC (E.take k) = z) ∧ Below w.heap.size w wr) (fun _ i _ => n - (RowKit.intOf i).toNat)
  case atStart => exact ⟨0, 0, Nat.zero_le _, rfl, rfl, by omega, by omega, by show larC (E.take 0) = 0; simp [larC], Below.refl _ _⟩
  case round =>
    obtain ⟨k, z, hk, rfl, rfl, hz0, hz1, HZ, hbw⟩ := hrel
    by_cases hlt : k < n
    · have hltI : (k : Int) < n := by omega
      obtain ⟨d, hd⟩ : ∃ d, D0[k]? = some d := ⟨_, List.getElem?_eq_getElem (by rw [HN.out.1]; exact hlt)⟩
      obtain ⟨e, he, het, hel⟩ := HE.out k d hd
      obtain ⟨b, off, rfl, hin⟩ := HC.out (by intro e; rw [e] at hd; simp at hd)
      obtain ⟨x0, x1, x2, x3, x4, x5⟩ := cellsC_get D0 k d hd
      have c0 := (hin.below hbw) _ _ x0
      have c1 := (hin.below hbw) _ _ x1
      have c2 := (hin.below hbw) _ _ x2
      have c3 := (hin.below hbw) _ _ x3
      have c4 := (hin.below hbw) _ _ x4
      have c5 := (hin.below hbw) _ _ x5
      simp only [← Nat.add_assoc] at c0 c1 c2 c3 c4 c5
      have hfe := HF.out e (List.mem_of_getElem? he)
      have hT1 := hfe.1
      have hT2 := hfe.2
      have HS : Hid (larC (E.take (k + 1)) = z + (1 + (e.2.1.size : Int) + 10 * e.2.2.2.length)) := by
        show _ = _
        rw [List.take_add_one, he, Option.toList_some, larC_append, larC_one, HZ.out]
      clear hd he hin HZ hfe x0 x1 x2 x3 x4 x5
      obtain ⟨dk, dt, ⟨dx, dn, du⟩, ds⟩ := d
      obtain ⟨dp, dl, dcap⟩ := ds
      simp only at het hel
      rw [← het, ← hel] at HS
      rw [← het] at hT1
      rw [← hel] at hT2
      clear het hel
      simp only [slV] at c0 c1 c2 c3 c4 c5
      obtain ⟨s, hs⟩ : ∃ s : Int, (dt.size : Int) = s := ⟨_, rfl⟩
      obtain ⟨L, hL⟩ : ∃ s : Int, (dl : Int) = s := ⟨_, rfl⟩
      have hs1 : 0 ≤ s ∧ s ≤ 1048576 := by omega
      have hL1 : 0 ≤ L ∧ L ≤ 1048576 := by omega
      obtain ⟨hs1, hs2⟩ := hs1
      obtain ⟨hL1, hL2⟩ := hL1
      rw [hs, hL] at HS
      have hk2 : (k : Int) ≤ 1048576 := by omega
      go_wp2
      go_roundw
      case rel => exact ⟨k + 1, z + (1 + s + 10 * L), by omega, by go_num, rfl, by omega, by omega, HS.out, hbw.alloc hbw.size _⟩
      case measure => simp [RowKit.intOf]; omega
    · have hltI : ¬ (k : Int) < n := by omega
      have hE : E.take k = E := List.take_of_length_le (by rw [HN.out.2]; omega)
      rw [hE] at HZ
      go_wp2
      go_ret
      exact ⟨by rw [HZ.out]; rfl, hbw⟩
/-- A cell without attributes, as it lies in memory. -/
abbrev cvN (e : C5) : CV := (e.1, e.2.1, e.2.2.1, (none, 0, 0))
theorem rowC_blk {w : World} {b : Nat} {D : List CV} (h : w.heap[b]? = some (.cells (cellsC D).toArray 30 (0, 0))) : RowC w (.slice (some ⟨b, 0, none⟩) D.length D.length) D := by
  refine ⟨some ⟨b, 0, none⟩, D.length, rfl, Nat.le_refl _, fun h => (by cases h), fun _ => ⟨b, 0, rfl, fun j u hu => ?_⟩⟩
  rw [Nat.zero_add, cell_of_heap h, List.getElem?_toArray]
  exact hu
theorem areN (w : World) : ∀ (E : List C5), (∀ e ∈ E, e.2.2.2 = []) → Are w (E.map cvN) E
  | [], _ => .nil
  | e :: r, h => by
    refine .cons ⟨rfl, rfl, rfl, ?_⟩ (areN w r fun x hx => h x (List.mem_cons_of_mem _ hx))
    rw [h e (List.mem_cons_self ..)]
    exact RN.nil w
def live9 : List C5 := [(97, ⟨#[]⟩, z0, []), (98, ⟨#[]⟩, z0, []), (-1, ⟨#[105, 109, 97, 103, 101]⟩, z0, [])]
def live9o : List Op5 := [txtO ⟨#[97, 98]⟩, ⟨2, ⟨#[105, 109, 97, 103, 101]⟩, z0, 0, []⟩]
theorem live9_ok : celP live9 = (0, 0) := by kernel_rfl
theorem live9_doc : docOf live9 = live9o := by kernel_rfl
theorem live9_nil : ∀ e ∈ live9, e.2.2.2 = [] := by
  intro e he
  simp only [live9, List.mem_cons, List.not_mem_nil, or_false] at he
  rcases he with rfl | rfl | rfl <;> rfl
theorem live9_fit : ∀ e ∈ live9, FitC e := by
  intro e he
  have hA := live9_nil e he
  refine ⟨?_, ?_, fun q hq => (by rw [hA] at hq; cases hq), by rw [hA]; simp⟩
  all_goals
    simp only [live9, List.mem_cons, List.not_mem_nil, or_false] at he
    rcases he with rfl | rfl | rfl <;> decide
theorem live9o_nil : ∀ o ∈ live9o, o.A = [] := by
  intro o ho
  simp only [live9o, List.mem_cons, List.not_mem_nil, or_false] at ho
  rcases ho with rfl | rfl <;> rfl
theorem live9o_okR : OkR live9o := ⟨fun o ho => by rw [live9o_nil o ho]; simp, by decide⟩
theorem live9o_good : ∀ o ∈ live9o, opE o = 0 := by
  intro o ho
  simp only [live9o, List.mem_cons, List.not_mem_nil, or_false] at ho
  rcases ho with rfl | rfl <;> kernel_rfl
set_option maxHeartbeats 2000000 in
set_option maxRecDepth 100000 in
theorem lives9_any {I : List Nat} {a : Nat → Addr} (w : World) (hI : ∀ i ∈ IxO, i ∈ I) (hS : Std I a w) :
    Calls Tryz.prog 7 #[] w fun r w' => r = .returned (.bool true) ∧ Below w.heap.size w w' := by
  have CO : Hid (∀ W b, Below w.heap.size w W → W.heap[b]? = some (.cells (cellsC (live9.map cvN)).toArray 30 (0, 0)) → Calls Tryz.prog 13 #[.slice (some ⟨b, 0, none⟩) 3 3] W fun r w' => ∃ dv, r = .returned (.tuple #[dv, .int .i64 0, .nilIface]) ∧ (∃ q, dv = .pointer (some ⟨q, 0, none⟩)) ∧ DelV w' W.heap.size W.heap.size dv live9o ∧ Below W.heap.size W w') := fun W b hW hb => by
    refine (ofC_any _ (live9.map cvN) live9 W hI (hS.below hW) (rowC_blk hb) (areN W live9 live9_nil) live9_fit (by decide) (by decide)).mono ?_
    rintro r w' ⟨dv, h1, h2, _, h4⟩
    rw [live9_ok] at h1 h2
    rw [live9_doc] at h2
    have h5 := h2 rfl
    obtain ⟨q, pv, PL, e, _⟩ := id h5
    exact ⟨dv, h1, ⟨q, e⟩, h5, h4⟩
  have CI : Hid (∀ W b dv B1 B2, DelV W B1 B2 dv live9o → W.heap[b]? = some (.cells (cellsO (live9o.map ovN)).toArray 69 (0, 0)) → Calls Tryz.prog 18 #[dv, .slice (some ⟨b, 0, none⟩) 2 2] W fun r w' => r = .returned (.bool true) ∧ Below W.heap.size W w') := fun W b dv B1 B2 h hb => by
    have := is_any dv (.slice (some ⟨b, 0, none⟩) 2 2) live9o live9o W h live9o_good live9o_okR (re_blk hb live9o_nil) live9o_okR
    rw [decide_eq_true rfl] at this
    exact this
  clear hS hI
  go_enter Tryz.func7, Tryz.ntmps7
  have b0 := (Below.refl w.heap.size w).alloc (Nat.le_refl _) (.cells (cellsC (live9.map cvN)).toArray 30)
  go_wp2_with fail
  refine (CO.out _ _ b0 (heap_alloc_new w _)).mono ?_; rintro r w5 ⟨dv, rfl, ⟨q, rfl⟩, hd5, hb5⟩
  have b5 := b0.trans (hb5.mono b0.size)
  have HD5 : Hid (∃ B1 B2, DelV w5 B1 B2 (.pointer (some ⟨q, 0, none⟩)) live9o) := ⟨_, _, hd5⟩
  clear hb5 hd5 CO b0
  obtain ⟨B1, B2, hd7⟩ := HD5.out
  have HD : Hid (DelV w5 B1 B2 (.pointer (some ⟨q, 0, none⟩)) live9o) := hd7
  clear hd7 HD5
  go_wp2_with fail
  refine (CI.out _ _ _ B1 B2 (HD.out.below ((Below.refl _ _).alloc (Nat.le_refl _) _)) (heap_alloc_new w5 _)).mono ?_; rintro r w8 ⟨rfl, hb8⟩
  have b8 := (b5.alloc b5.size _).trans (hb8.mono (Nat.le_trans b5.size (by rw [World.size_alloc]; omega)))
  clear hb8 b5 CI HD
  go_wp2
  go_ret
  exact ⟨rfl, b8⟩
end Go.Proofs.YtalfdjglbbmjcabGreatDoor

/- Of all lists of cells vellumlaw09.CellsOf answers true. -/
namespace Go.Proofs.YtalfdjglbbmjcabGreatDoor
open Go Go.RowKit Go.Lib
set_option linter.unusedVariables false

theorem Hid.mk9' {P : Prop} (h : P) : Hid P := h
theorem delV_out9 {w w' : World} {lo hi B1 B2 : Nat} {v : Value} {E : List Op5} (h : DelV w B1 B2 v E) (o : Out lo hi w w') (h1 : hi ≤ B1) (h2 : hi ≤ B2) : DelV w' B1 B2 v E := by
  obtain ⟨q, pv, PL, a1, a2, a3, a4, a5⟩ := h
  refine ⟨q, pv, PL, a1, a2, (o.block q (Array.getElem?_eq_some_iff.1 a3).1 (Or.inr (by omega))).trans a3, o.own h1 a4, ?_⟩
  exact All2.imp (fun x e h => by obtain ⟨s, k1, k2⟩ := h; exact ⟨s, k1, o.own h2 k2⟩) a5
theorem farO_out9 {w w' : World} {lo hi B : Nat} {v : Value} {D : List OV} (h : FarO w B v D) (o : Out lo hi w w') (h1 : hi ≤ B) : FarO w' B v D := by
  obtain ⟨p, cap, a1, a2, a3, a4⟩ := h
  exact ⟨p, cap, a1, a2, a3, fun j d hd => by
    obtain ⟨b, off, k1, k0, k2⟩ := a4 j d hd
    exact ⟨b, off, k1, k0, k2.same_block (o.block b (lt_of_cell k2.c0) (Or.inr (by omega)))⟩⟩
theorem delV_low9 {w : World} {B1 B2 C1 C2 : Nat} {v : Value} {E : List Op5} (h : DelV w B1 B2 v E) (h1 : C1 ≤ B1) (h2 : C2 ≤ B2) : DelV w C1 C2 v E := by
  obtain ⟨q, pv, PL, a1, a2, a3, a4, a5⟩ := h
  exact ⟨q, pv, PL, a1, by omega, a3, own_weaken a4 h1, All2.imp (fun x e h => by obtain ⟨s, k1, k2⟩ := h; exact ⟨s, k1, own_weaken k2 h2⟩) a5⟩
theorem celP_le : ∀ (E : List C5), (celP E).2 ≤ 19 := fun E => by
  by_cases h : ∀ o ∈ E, celE o = 0
  · rw [cel_none h]; exact Nat.zero_le _
  · induction E with
    | nil => exact Nat.zero_le _
    | cons x r ih =>
      have := celE_le x
      unfold celP
      split
      · assumption
      · by_cases h2 : ∀ o ∈ r, celE o = 0
        · rw [cel_none h2]; exact Nat.zero_le _
        · split
          · exact Nat.zero_le _
          · exact ih h2
theorem hand_ceH {w : World} {lo hi : Nat} {v : Value} {D : List CV} {A : List C5} (h : OwnC w lo v D) (ht : ∀ k, v.ownBlock = some k → k < hi) (hh : HandC w lo hi D A) (hn : ∀ e ∈ A, e.2.2.2.length ≤ 1048576) : CeH w lo hi v D :=
  ⟨h, ht, fun d hd => by
    obtain ⟨k, hk⟩ := List.getElem?_of_mem hd
    obtain ⟨e, he, hr⟩ := forall2_get hh k d hk
    obtain ⟨q, c, e1, _⟩ := hr.2.2.2.RN.row.val
    have ha := AtS.hand hr.2.2.2
    simp only [slV, Value.slice.injEq] at e1
    exact ⟨ha, by rw [e1.2.1]; exact hn e (List.mem_of_getElem? he)⟩⟩
set_option maxHeartbeats 16000000 in
set_option maxRecDepth 100000 in
theorem cellsOf_any {I : List Nat} {a : Nat → Addr} (v : Value) (C : List CV) (A : List C5) (w : World) (hI : ∀ i ∈ IxO, i ∈ I) (hS : Std I a w) (hN : Sent a w) (row : RowC w v C) (are : Are w C A) (fit : ∀ e ∈ A, FitC e) (len : A.length ≤ 1048576) :
    Calls Tryz.prog 3 #[v] w fun r w' => r = .returned (.bool true) ∧ Below w.heap.size w w' := by
  have cF := lives9_any w hI hS
  have cLa : Hid (∀ W, Below w.heap.size w W → Calls Tryz.prog 8 #[v] W fun r w' => r = .returned (.bool (decide (20000 < larC A))) ∧ Below W.heap.size W w') := fun W hW => large9_any v C A W (row.below hW) (are.below hW) (fun e he => ⟨(fit e he).t, (fit e he).n⟩) len
  have cH : Hid (∀ W, Below w.heap.size w W → Calls Tryz.prog 9 #[v] W fun r w' => ∃ v', r = .returned v' ∧ (∃ D, OwnC w' W.heap.size v' D ∧ HandC w' W.heap.size w'.heap.size D A) ∧ Below W.heap.size W w') := fun W hW => own9_any v C A W (row.below hW) (are.below hW) len (fun e he => (fit e he).n)
  have cK1 : Hid (∀ (W : World) (d : CV) (e : C5), Below w.heap.size w W → (d.1 = e.1 ∧ d.2.1 = e.2.1 ∧ d.2.2.1 = e.2.2.1 ∧ RN W (slV d.2.2.2) e.2.2.2) → e ∈ A → (Calls Tryz.prog 11 #[ceV d] W fun r w' => r = .returned (errOf a (celE e)) ∧ Below W.heap.size W w') ∧ (Calls Tryz.prog 12 #[ceV d] W fun r w' => r = .returned (.int .i64 (celE e)) ∧ Below W.heap.size W w')) := fun W d e hW h he => by
    rw [ce_of h]
    exact ⟨checkC_any e _ _ _ W hI (hS.below hW) h.2.2.2 (fit e he), checkR9_any e _ _ _ W (hS.below hW) h.2.2.2 (fit e he)⟩
  have cNu : Hid (∀ (W : World) (n : Nat), Below w.heap.size w W → n ≤ 19 → Calls Tryz.prog 10 #[errOf a n] W fun r w' => r = .returned (.int .i64 n) ∧ Below W.heap.size W w') := fun W n hW hn => num_of (hN.below hW) n hn
  have cOf : Hid (txtS (A.map opOf) ≤ 8388608 → ∀ (W : World) (u : Value) (D : List CV), Below w.heap.size w W → RowC W u D → Are W D A → Calls Tryz.prog 13 #[u] W fun r w' => ∃ dv, r = .returned (.tuple #[dv, .int .i64 (celP A).1, errOf a (celP A).2]) ∧ ((celP A).2 = 0 → DelV w' W.heap.size W.heap.size dv (docOf A)) ∧ ((celP A).2 ≠ 0 → dv = .pointer none) ∧ Below W.heap.size W w') := fun ht W u D hW h1 h2 => ofC_any u D A W hI (hS.below hW) h1 h2 fit len ht
  have cRo : Hid (txtS (A.map opOf) ≤ 8388608 → ∀ (W : World), Below w.heap.size w W → Calls Tryz.prog 14 #[v] W fun r w' => ∃ lv, r = .returned (.tuple #[lv, .int .i64 (celP A).1, .int .i64 (celP A).2]) ∧ ((celP A).2 = 0 → ∃ D', FarO w' W.heap.size lv D' ∧ ReD w D' (docOf A)) ∧ ((celP A).2 ≠ 0 → lv = .slice none 0 0) ∧ Below W.heap.size W w') := fun ht W hW => refOf9_any (w0 := w) v C A W (hS.below hW) hW (row.below hW) are fit len ht
  have cS : Hid (∀ (W : World) (u : Value) (D : List CV), Below w.heap.size w W → RowC W u D → Are W D A → Calls Tryz.prog 15 #[u, v] W fun r w' => r = .returned (.bool true) ∧ Below W.heap.size W w') := fun W u D hW h1 h2 => by
    have := sameL9_any u v D C A A W h1 (row.below hW) h2 (are.below hW) (by omega) (by omega) (fun e he => by have := (fit e he).n; omega) (fun e he => by have := (fit e he).n; omega)
    rwa [decide_eq_true rfl] at this
  have HA : Hid (Are w C A ∧ (∀ e ∈ A, FitC e) ∧ A.length ≤ 1048576) := ⟨are, fit, len⟩
  have hCA := forall2_len are
  obtain ⟨n, hn⟩ : ∃ n, C.length = n := ⟨_, rfl⟩
  obtain ⟨pl, cl, rfl, hcl, _, hl⟩ := row
  have HL : Hid ((C ≠ [] → ∃ b off, pl = some ⟨b, off, none⟩ ∧ InC w b off C) ∧ C.length = n ∧ A.length = n) := ⟨hl, hn, by rw [← hCA, hn]⟩
  rw [hn] at hcl cLa cH cRo cS ⊢
  obtain ⟨q, hq⟩ : ∃ q, decide (20000 < larC A) = q := ⟨_, rfl⟩
  rw [hq] at cLa
  have HQ : Hid (decide (20000 < larC A) = q) := hq
  have hnn : n ≤ 1048576 := by rw [← hn, hCA]; exact len
  clear hq hS hN hI are fit len hl hn hCA
  go_enter Tryz.func3, Tryz.ntmps3
  go_wp2_with fail
  refine cF.mono ?_; rintro r w1 ⟨rfl, hb1⟩
  have c1 := cLa.out _ hb1
  clear cF cLa
  go_wp2_with fail
  refine c1.mono ?_; rintro r w2 ⟨rfl, hb2'⟩
  have hb2 := hb1.trans (hb2'.mono hb1.size)
  clear c1 hb1 hb2'
  cases q with
  | true =>
    go_wp2
    go_ret
    exact ⟨rfl, hb2⟩
  | false =>
    have HZ : Hid (txtS (A.map opOf) ≤ 8388608 ∧ ((celP A).2 = 0 → OkR (docOf A) ∧ ∀ o ∈ docOf A, opE o = 0) ∧ (celP A).2 ≤ 19) := by
      obtain ⟨ht, hl2, hA2⟩ := lightC HQ.out
      refine ⟨by omega, fun h => ?_, ?_⟩
      · have ok := okE_cells (celP_zero.1 h) HA.out.2.1 (by omega) (by omega)
        obtain ⟨k1, k2, k3⟩ := canon_ok ok
        rw [List.length_map] at k3
        exact ⟨OkE.okR k1 (by show (canonL _).length ≤ _; omega), k1.good⟩
      · exact celP_le A
    have c2 := cH.out _ hb2
    clear cH HQ
    go_wp2_with fail
    refine c2.mono ?_; rintro r w3 ⟨vm, rfl, ⟨D, hown, hhand⟩, hb3'⟩
    have hb3 := hb2.trans (hb3'.mono hb2.size)
    have hDA := forall2_len hhand
    have hDn : D.length = n := by rw [hDA]; exact HL.out.2.2
    have HCe : Hid (w.heap.size ≤ w2.heap.size ∧ w2.heap.size ≤ w3.heap.size ∧ OwnC w3 w2.heap.size vm D ∧ HandC w3 w2.heap.size w3.heap.size D A) := ⟨hb2.size, hb3'.size, hown, hhand⟩
    obtain ⟨pm, cm, rfl, hcm, _, hm⟩ := own_rowC hown
    have HM : Hid ((D ≠ [] → ∃ b off, pm = some ⟨b, off, none⟩ ∧ InC w3 b off D) ∧ D.length = n ∧ Are w3 D A) := ⟨hm, hDn, hhand.are⟩
    have HMR : Hid (RowC w3 (.slice pm n cm) D ∧ Are w3 D A) := ⟨by rw [← hDn]; exact own_rowC hown, hhand.are⟩
    rw [hDn] at hcm HCe ⊢
    have HB3 : Hid (Below w.heap.size w w3) := hb3
    have CC : Hid (∀ (k : Nat) (d d' : CV), D[k]? = some d → C[k]? = some d' → ∃ (ev : Value) (z : Int), (∀ W, Below w3.heap.size w3 W → Calls Tryz.prog 11 #[ceV d] W fun r w' => r = .returned ev ∧ Below W.heap.size W w') ∧ (∀ W, Below w3.heap.size w3 W → Calls Tryz.prog 10 #[ev] W fun r w' => r = .returned (.int .i64 z) ∧ Below W.heap.size W w') ∧ (∀ W, Below w3.heap.size w3 W → Calls Tryz.prog 12 #[ceV d'] W fun r w' => r = .returned (.int .i64 z) ∧ Below W.heap.size W w')) := fun k d d' h1 h2 => by
      obtain ⟨y, hy, r1⟩ := forall2_get HMR.out.2 k d h1
      obtain ⟨y', hy', r2⟩ := forall2_get HA.out.1 k d' h2
      obtain rfl : y' = y := Option.some.inj (hy'.symm.trans hy)
      have up : ∀ W, Below w3.heap.size w3 W → Below w.heap.size w W := fun W hW => HB3.out.trans (hW.mono HB3.out.size)
      exact ⟨errOf a (celE y'), celE y', fun W hW => (cK1.out W d y' (up W hW) ⟨r1.1, r1.2.1, r1.2.2.1, r1.2.2.2.below hW⟩ (List.mem_of_getElem? hy)).1, fun W hW => cNu.out W _ (up W hW) (celE_le y'), fun W hW => (cK1.out W d' y' (up W hW) ⟨r2.1, r2.2.1, r2.2.2.1, r2.2.2.2.below (up W hW)⟩ (List.mem_of_getElem? hy)).2⟩
    have cOm : Hid (∀ W, Below w3.heap.size w3 W → Calls Tryz.prog 13 #[.slice pm n cm] W fun r w' => ∃ dv, r = .returned (.tuple #[dv, .int .i64 (celP A).1, errOf a (celP A).2]) ∧ ((celP A).2 = 0 → DelV w' W.heap.size W.heap.size dv (docOf A)) ∧ ((celP A).2 ≠ 0 → dv = .pointer none) ∧ Below W.heap.size W w') := fun W hW => cOf.out HZ.out.1 W _ D (HB3.out.trans (hW.mono HB3.out.size)) (HMR.out.1.below hW) (HMR.out.2.below hW)
    have cSm : Hid (∀ W, Below w3.heap.size w3 W → Calls Tryz.prog 15 #[.slice pm n cm, .slice pl n cl] W fun r w' => r = .returned (.bool true) ∧ Below W.heap.size W w') := fun W hW => cS.out W _ D (HB3.out.trans (hW.mono HB3.out.size)) (HMR.out.1.below hW) (HMR.out.2.below hW)
    have cRm := Hid.mk9' (cRo.out HZ.out.1)
    have cNm : Hid (∀ W, Below w.heap.size w W → Calls Tryz.prog 10 #[errOf a (celP A).2] W fun r w' => r = .returned (.int .i64 (celP A).2) ∧ Below W.heap.size W w') := fun W hW => cNu.out W _ hW HZ.out.2.2
    have CK : Hid (∀ (k : Nat) (d d' : CV), D[k]? = some d → C[k]? = some d' → ∀ W, Below w3.heap.size w3 W → Calls Tryz.prog 16 #[slV d.2.2.2, slV d'.2.2.2] W fun r w' => r = .returned (.bool true) ∧ Below W.heap.size W w') := fun k d d' h1 h2 W hW => by
      obtain ⟨y, hy, r1⟩ := forall2_get HCe.out.2.2.2 k d h1
      obtain ⟨y', hy', r2⟩ := forall2_get HA.out.1 k d' h2
      obtain rfl : y' = y := Option.some.inj (hy'.symm.trans hy)
      exact kept_any _ _ y'.2.2.2 W ((r1.2.2.2.below hW).hand) (r2.2.2.2.below (HB3.out.trans (hW.mono HB3.out.size))).row (HA.out.2.1 y' (List.mem_of_getElem? hy)).n
    have cOv : Hid (∀ W, Below w3.heap.size w3 W → Calls Tryz.prog 17 #[.slice pm n cm] W fun r w' => r = .returned (.tuple #[]) ∧ Out w2.heap.size w3.heap.size W w') := fun W hW => by
      obtain ⟨_, _, h3, h4⟩ := HCe.out
      refine over9_any _ D _ _ W (hand_ceH (owns_below h3 hW) (fun k hk => ?_) (All2.imp (fun d e h => ⟨h.1, h.2.1, h.2.2.1, h.2.2.2.below hW⟩) h4) (fun e he => (HA.out.2.1 e he).n)) (by rw [HM.out.2.1]; exact hnn)
      obtain ⟨_, cur, hc⟩ := owns_block h3 k hk
      exact (Array.getElem?_eq_some_iff.1 hc).1
    clear c2 hown hhand hb3' hb3 hb2 hDA hDn hm cOf cS cRo cNu cK1
    go_wp2
    go_loopw [26] (fun i wr => ∃ (k : Nat), k ≤ n ∧ i = .int .i64 k ∧ Below w3.heap.size w3 wr) (fun i _ => n - (RowKit.intOf i).toNat)
    case atStart => exact ⟨0, Nat.zero_le _, rfl, Below.refl _ _⟩
    case round =>
      obtain ⟨k, hk, rfl, hbw⟩ := hrel
      by_cases hlt : k < n
      · have hltI : (k : Int) < n := by omega
        obtain ⟨d, hd⟩ : ∃ q, D[k]? = some q := ⟨_, List.getElem?_eq_getElem (by rw [HM.out.2.1]; exact hlt)⟩
        obtain ⟨d', hd'⟩ : ∃ q, C[k]? = some q := ⟨_, List.getElem?_eq_getElem (by rw [HL.out.2.1]; exact hlt)⟩
        obtain ⟨ev, z, k1, k2, k3⟩ := CC.out k d d' hd hd'
        obtain ⟨bm, om, rfl, hin⟩ := HM.out.1 (by intro e; rw [e] at hd; simp at hd)
        obtain ⟨bl, ol, rfl, hin'⟩ := HL.out.1 (by intro e; rw [e] at hd'; simp at hd')
        obtain ⟨x0, x1, x2, x3, x4, x5⟩ := cellsC_get D k d hd
        obtain ⟨y0, y1, y2, y3, y4, y5⟩ := cellsC_get C k d' hd'
        have hbv : Below w.heap.size w wr := HB3.out.trans (hbw.mono HB3.out.size)
        have c0 := (hin.below hbw) _ _ x0
        have c1 := (hin.below hbw) _ _ x1
        have c2 := (hin.below hbw) _ _ x2
        have c3 := (hin.below hbw) _ _ x3
        have c4 := (hin.below hbw) _ _ x4
        have c5 := (hin.below hbw) _ _ x5
        have d0 := (hin'.below hbv) _ _ y0
        have d1 := (hin'.below hbv) _ _ y1
        have d2 := (hin'.below hbv) _ _ y2
        have d3 := (hin'.below hbv) _ _ y3
        have d4 := (hin'.below hbv) _ _ y4
        have d5 := (hin'.below hbv) _ _ y5
        simp only [← Nat.add_assoc] at c0 c1 c2 c3 c4 c5 d0 d1 d2 d3 d4 d5
        clear x0 x1 x2 x3 x4 x5 y0 y1 y2 y3 y4 y5 hin hin' hd hd' CC cOm cSm cRm cNm CK cOv HZ HMR HCe hbv
        obtain ⟨dk, dt, ⟨dx, dn, du⟩, dp, dl, dcap⟩ := d
        obtain ⟨fk, ft, ⟨fx, fn, fu⟩, fp, fl, fcap⟩ := d'
        simp only [slV] at c0 c1 c2 c3 c4 c5 d0 d1 d2 d3 d4 d5
        simp only [ceV, slV] at k1 k3
        have bx : Below wr.heap.size wr (wr.alloc (.cells #[.int .i32 dk, .string dt, .int .i64 dx, .int .i64 dn, .string du, .slice dp dl dcap] 30)) := (Below.refl _ _).alloc (Nat.le_refl _) _
        obtain ⟨W1, hW1⟩ : ∃ W, W = wr.alloc (.cells #[.int .i32 dk, .string dt, .int .i64 dx, .int .i64 dn, .string du, .slice dp dl dcap] 30) := ⟨_, rfl⟩
        have hnw : W1.heap[wr.heap.size]? = some (.cells #[.int .i32 dk, .string dt, .int .i64 dx, .int .i64 dn, .string du, .slice dp dl dcap] 30 (0, 0)) := by rw [hW1]; exact heap_alloc_new wr _
        rw [← hW1] at bx
        have hbw1 := hbw.trans (bx.mono hbw.size)
        have mS : ((W1.cell? ⟨wr.heap.size, 0, none⟩ = some (.int .i32 dk) ∧ W1.cell? ⟨wr.heap.size, 1, none⟩ = some (.string dt) ∧ W1.cell? ⟨wr.heap.size, 2, none⟩ = some (.int .i64 dx) ∧ W1.cell? ⟨wr.heap.size, 3, none⟩ = some (.int .i64 dn) ∧ W1.cell? ⟨wr.heap.size, 4, none⟩ = some (.string du) ∧ W1.cell? ⟨wr.heap.size, 5, none⟩ = some (.slice dp dl dcap)) ∧ W1.cell? ⟨bl, ol + k * 6, none⟩ = some (.int .i32 fk) ∧ W1.cell? ⟨bl, ol + k * 6 + 1, none⟩ = some (.string ft) ∧ W1.cell? ⟨bl, ol + k * 6 + 2, none⟩ = some (.int .i64 fx) ∧ W1.cell? ⟨bl, ol + k * 6 + 3, none⟩ = some (.int .i64 fn) ∧ W1.cell? ⟨bl, ol + k * 6 + 4, none⟩ = some (.string fu) ∧ W1.cell? ⟨bl, ol + k * 6 + 5, none⟩ = some (.slice fp fl fcap)) := by
          refine ⟨⟨?_, ?_, ?_, ?_, ?_, ?_⟩, ?_, ?_, ?_, ?_, ?_, ?_⟩
          · rw [cell_of_heap hnw]; rfl
          · rw [cell_of_heap hnw]; rfl
          · rw [cell_of_heap hnw]; rfl
          · rw [cell_of_heap hnw]; rfl
          · rw [cell_of_heap hnw]; rfl
          · rw [cell_of_heap hnw]; rfl
          · exact (bx.cell (lt_of_cell d0)).trans d0
          · exact (bx.cell (lt_of_cell d1)).trans d1
          · exact (bx.cell (lt_of_cell d2)).trans d2
          · exact (bx.cell (lt_of_cell d3)).trans d3
          · exact (bx.cell (lt_of_cell d4)).trans d4
          · exact (bx.cell (lt_of_cell d5)).trans d5
        have HV : Hid (∀ w', Below W1.heap.size W1 w' → ((w'.cell? ⟨wr.heap.size, 0, none⟩ = some (.int .i32 dk) ∧ w'.cell? ⟨wr.heap.size, 1, none⟩ = some (.string dt) ∧ w'.cell? ⟨wr.heap.size, 2, none⟩ = some (.int .i64 dx) ∧ w'.cell? ⟨wr.heap.size, 3, none⟩ = some (.int .i64 dn) ∧ w'.cell? ⟨wr.heap.size, 4, none⟩ = some (.string du) ∧ w'.cell? ⟨wr.heap.size, 5, none⟩ = some (.slice dp dl dcap)) ∧ w'.cell? ⟨bl, ol + k * 6, none⟩ = some (.int .i32 fk) ∧ w'.cell? ⟨bl, ol + k * 6 + 1, none⟩ = some (.string ft) ∧ w'.cell? ⟨bl, ol + k * 6 + 2, none⟩ = some (.int .i64 fx) ∧ w'.cell? ⟨bl, ol + k * 6 + 3, none⟩ = some (.int .i64 fn) ∧ w'.cell? ⟨bl, ol + k * 6 + 4, none⟩ = some (.string fu) ∧ w'.cell? ⟨bl, ol + k * 6 + 5, none⟩ = some (.slice fp fl fcap))) := fun w' hb => by
          obtain ⟨⟨m0, m1, m2, m3, m4, m5⟩, l0, l1, l2, l3, l4, l5⟩ := mS
          exact ⟨⟨(hb.cell (lt_of_cell m0)).trans m0, (hb.cell (lt_of_cell m1)).trans m1, (hb.cell (lt_of_cell m2)).trans m2, (hb.cell (lt_of_cell m3)).trans m3, (hb.cell (lt_of_cell m4)).trans m4, (hb.cell (lt_of_cell m5)).trans m5⟩, (hb.cell (lt_of_cell l0)).trans l0, (hb.cell (lt_of_cell l1)).trans l1, (hb.cell (lt_of_cell l2)).trans l2, (hb.cell (lt_of_cell l3)).trans l3, (hb.cell (lt_of_cell l4)).trans l4, (hb.cell (lt_of_cell l5)).trans l5⟩
        have mD : ((W1.drew.cell? ⟨wr.heap.size, 0, none⟩ = some (.int .i32 dk) ∧ W1.drew.cell? ⟨wr.heap.size, 1, none⟩ = some (.string dt) ∧ W1.drew.cell? ⟨wr.heap.size, 2, none⟩ = some (.int .i64 dx) ∧ W1.drew.cell? ⟨wr.heap.size, 3, none⟩ = some (.int .i64 dn) ∧ W1.drew.cell? ⟨wr.heap.size, 4, none⟩ = some (.string du) ∧ W1.drew.cell? ⟨wr.heap.size, 5, none⟩ = some (.slice dp dl dcap)) ∧ W1.drew.cell? ⟨bl, ol + k * 6, none⟩ = some (.int .i32 fk) ∧ W1.drew.cell? ⟨bl, ol + k * 6 + 1, none⟩ = some (.string ft) ∧ W1.drew.cell? ⟨bl, ol + k * 6 + 2, none⟩ = some (.int .i64 fx) ∧ W1.drew.cell? ⟨bl, ol + k * 6 + 3, none⟩ = some (.int .i64 fn) ∧ W1.drew.cell? ⟨bl, ol + k * 6 + 4, none⟩ = some (.string fu) ∧ W1.drew.cell? ⟨bl, ol + k * 6 + 5, none⟩ = some (.slice fp fl fcap)) := HV.out _ (Below.refl _ _).drew
        have k1' : ∀ W, Below W1.heap.size W1 W → Calls Tryz.prog 11 #[.agg #[.int .i32 dk, .string dt, .int .i64 dx, .int .i64 dn, .string du, .slice dp dl dcap]] W fun r w' => r = .returned ev ∧ Below W1.heap.size W1 w' := fun W hW => from_below hW (k1 W (hbw1.trans (hW.mono hbw1.size)))
        have k2' : ∀ W, Below W1.heap.size W1 W → Calls Tryz.prog 10 #[ev] W fun r w' => r = .returned (.int .i64 z) ∧ Below W1.heap.size W1 w' := fun W hW => from_below hW (k2 W (hbw1.trans (hW.mono hbw1.size)))
        have k3' : ∀ W, Below W1.heap.size W1 W → Calls Tryz.prog 12 #[.agg #[.int .i32 fk, .string ft, .int .i64 fx, .int .i64 fn, .string fu, .slice fp fl fcap]] W fun r w' => r = .returned (.int .i64 z) ∧ Below W1.heap.size W1 w' := fun W hW => from_below hW (k3 W (hbw1.trans (hW.mono hbw1.size)))
        have bD : Below W1.heap.size W1 W1.drew := (Below.refl _ _).drew
        have hzz : (z != z) = false := bne_self_eq_false z
        have HBW : Hid (Below w3.heap.size w3 W1) := hbw1
        clear k1 k2 k3 bx hnw hbw hbw1 d0 d1 d2 d3 d4 d5 mS
        go_wp2_with fail
        rw [← hW1]
        clear hW1 c0 c1 c2 c3 c4 c5
        obtain ⟨⟨y0, y1, y2, y3, y4, y5⟩, z0', z1, z2, z3, z4, z5⟩ := HV.out W1 (Below.refl _ _)
        go_region_held3 (fun w' => ((w'.cell? ⟨wr.heap.size, 0, none⟩ = some (.int .i32 dk) ∧ w'.cell? ⟨wr.heap.size, 1, none⟩ = some (.string dt) ∧ w'.cell? ⟨wr.heap.size, 2, none⟩ = some (.int .i64 dx) ∧ w'.cell? ⟨wr.heap.size, 3, none⟩ = some (.int .i64 dn) ∧ w'.cell? ⟨wr.heap.size, 4, none⟩ = some (.string du) ∧ w'.cell? ⟨wr.heap.size, 5, none⟩ = some (.slice dp dl dcap)) ∧ w'.cell? ⟨bl, ol + k * 6, none⟩ = some (.int .i32 fk) ∧ w'.cell? ⟨bl, ol + k * 6 + 1, none⟩ = some (.string ft) ∧ w'.cell? ⟨bl, ol + k * 6 + 2, none⟩ = some (.int .i64 fx) ∧ w'.cell? ⟨bl, ol + k * 6 + 3, none⟩ = some (.int .i64 fn) ∧ w'.cell? ⟨bl, ol + k * 6 + 4, none⟩ = some (.string fu) ∧ w'.cell? ⟨bl, ol + k * 6 + 5, none⟩ = some (.slice fp fl fcap)) ∧ Below W1.heap.size W1 w')
          (exact ⟨by first | (with_reducible assumption) | (simp [*]; done), by first | (with_reducible assumption) | exact (Below.refl _ _).drew⟩)
          (first
            | (go_at_call 11; refine (k1' _ ?_).mono ?_; (· first | (with_reducible assumption) | (apply And.right; with_reducible assumption)); rintro r w5 ⟨rfl, b3⟩; have mm := HV.out _ b3)
            | (go_at_call 10; refine (k2' _ ?_).mono ?_; (· first | (with_reducible assumption) | (apply And.right; with_reducible assumption)); rintro r w5 ⟨rfl, b3⟩; have mm := HV.out _ b3)
            | (go_at_call 12; refine (k3' _ ?_).mono ?_; (· first | (with_reducible assumption) | (apply And.right; with_reducible assumption)); rintro r w5 ⟨rfl, b3⟩; have mm := HV.out _ b3))
        have b9 := HBW.out.trans (b3.mono HBW.out.size)
        go_wp2
        go_roundw
        case rel => exact ⟨k + 1, by omega, by go_num, b9⟩
        case measure => simp [RowKit.intOf]; omega
      · have hltI : ¬ (k : Int) < n := by omega
        obtain ⟨er, her⟩ : ∃ x, (celP A).2 = x := ⟨_, rfl⟩
        obtain ⟨pp, hpp⟩ : ∃ x : Int, ((celP A).1 : Int) = x := ⟨_, rfl⟩
        obtain ⟨ev, hev⟩ : ∃ x, errOf a er = x := ⟨_, rfl⟩
        obtain ⟨E, hE⟩ : ∃ x, docOf A = x := ⟨_, rfl⟩
        rw [her] at cOm cRm cNm HZ
        rw [hpp] at cOm cRm
        rw [hev] at cOm cNm
        rw [hE] at cOm cRm HZ
        have hp : (pp != pp) = false := bne_self_eq_false pp
        clear CC her hpp hev hE
        have c4 := cOm.out wr hbw
        go_wp2_with fail
        refine c4.mono ?_; rintro r w4 ⟨dv, rfl, hd1, hd2, hb4⟩
        have hb4' := hbw.trans (hb4.mono hbw.size)
        have hbv : Below w.heap.size w w4 := HB3.out.trans (hb4'.mono HB3.out.size)
        have HD4 : Hid ((er = 0 → DelV w4 w3.heap.size w3.heap.size dv E) ∧ (er ≠ 0 → dv = .pointer none)) := ⟨fun h => delV_low9 (hd1 h) hbw.size hbw.size, hd2⟩
        have c5 := cRm.out w4 hbv
        clear c4 cOm cRm hd1 hd2 hb4 hbw
        go_wp2_with fail
        refine c5.mono ?_; rintro r w5 ⟨wv, rfl, hw1, hw2, hb5⟩
        have hb5' := hb4'.trans (hb5.mono hb4'.size)
        have hbv5 := hbv.trans (hb5.mono hbv.size)
        have HD5 : Hid ((er = 0 → DelV w5 w3.heap.size w3.heap.size dv E ∧ ∃ D', FarO w5 w3.heap.size wv D' ∧ ReD w D' E) ∧ (er ≠ 0 → dv = .pointer none) ∧ (er ≠ 0 → wv = .slice none 0 0)) := ⟨fun h => ⟨(HD4.out.1 h).below hb5, by obtain ⟨D', q1, q2⟩ := hw1 h; exact ⟨D', q1.weaken hb4'.size, q2⟩⟩, HD4.out.2, hw2⟩
        have c6 := cNm.out w5 hbv5
        clear c5 cNm HD4 hw1 hw2 hb5 hb4' hbv
        go_wp2_with fail
        refine c6.mono ?_; rintro r w6 ⟨rfl, hb6⟩
        have hb6' := hb5'.trans (hb6.mono hb5'.size)
        have HD6 : Hid ((er = 0 → DelV w6 w3.heap.size w3.heap.size dv E ∧ ∃ D', FarO w6 w3.heap.size wv D' ∧ ReD w D' E) ∧ (er ≠ 0 → dv = .pointer none) ∧ (er ≠ 0 → wv = .slice none 0 0)) := ⟨fun h => ⟨(HD5.out.1 h).1.below hb6, by obtain ⟨D', q1, q2⟩ := (HD5.out.1 h).2; exact ⟨D', q1.below hb6, q2⟩⟩, HD5.out.2⟩
        have c7 := cSm.out w6 hb6'
        clear c6 cSm HD5 hb6 hb5' hbv5
        cases er with
        | zero =>
          obtain ⟨hdel, D', hfar, hreC⟩ := HD6.out.1 rfl
          obtain ⟨hokC, hgC⟩ := HZ.out.2.1 rfl
          obtain ⟨qd, rfl⟩ : ∃ qd, dv = .pointer (some ⟨qd, 0, none⟩) := by obtain ⟨q, _, _, e, _⟩ := hdel; exact ⟨q, e⟩
          obtain ⟨pw, cw, rfl⟩ : ∃ p c, wv = .slice p E.length c := by obtain ⟨p, c, e, _⟩ := hfar; have := forall2_len hreC; rw [this] at e; exact ⟨p, c, e⟩
          obtain ⟨m, hm⟩ : ∃ m, E.length = m := ⟨_, rfl⟩
          rw [hm] at hfar ⊢
          have HR : Hid (OkR E ∧ ∀ o ∈ E, opE o = 0) := ⟨hokC, hgC⟩
          have H7 : Hid (DelV w6 w3.heap.size w3.heap.size (.pointer (some ⟨qd, 0, none⟩)) E ∧ FarO w6 w3.heap.size (.slice pw m cw) D' ∧ ReD w D' E) := ⟨hdel, hfar, hreC⟩
          clear HD6 HZ hdel hfar hreC hokC hgC hm
          go_wp2_with fail
          refine c7.mono ?_; rintro r w7 ⟨rfl, hb7⟩
          have hb7' := hb6'.trans (hb7.mono hb6'.size)
          have H7' : Hid (DelV w7 w3.heap.size w3.heap.size (.pointer (some ⟨qd, 0, none⟩)) E ∧ FarO w7 w3.heap.size (.slice pw m cw) D' ∧ ReD w D' E) := ⟨H7.out.1.below hb7, H7.out.2.1.below hb7, H7.out.2.2⟩
          clear c7 hb7 hb6' H7
          go_wp2
          go_loopw [77, 3] (fun i s wr => ∃ (k : Nat), k ≤ n ∧ i = .int .i64 k ∧ s = .bool true ∧ Below w7.heap.size w7 wr) (fun i _ _ => n - (RowKit.intOf i).toNat)
          case atStart => exact ⟨0, Nat.zero_le _, rfl, rfl, Below.refl _ _⟩
          case round =>
            obtain ⟨k, hk, rfl, rfl, hbw⟩ := hrel
            have hbz := hb7'.trans (hbw.mono hb7'.size)
            by_cases hlt : k < n
            · have hltI : (k : Int) < n := by omega
              obtain ⟨d, hd⟩ : ∃ q, D[k]? = some q := ⟨_, List.getElem?_eq_getElem (by rw [HM.out.2.1]; exact hlt)⟩
              obtain ⟨d', hd'⟩ : ∃ q, C[k]? = some q := ⟨_, List.getElem?_eq_getElem (by rw [HL.out.2.1]; exact hlt)⟩
              have kk := CK.out k d d' hd hd'
              obtain ⟨bm, om, rfl, hin⟩ := HM.out.1 (by intro e; rw [e] at hd; simp at hd)
              obtain ⟨bl, ol, rfl, hin'⟩ := HL.out.1 (by intro e; rw [e] at hd'; simp at hd')
              have c5 := (hin.below hbz) _ _ (cellsC_get D k d hd).2.2.2.2.2
              have d5 := (hin'.below (HB3.out.trans (hbz.mono HB3.out.size))) _ _ (cellsC_get C k d' hd').2.2.2.2.2
              simp only [← Nat.add_assoc] at c5 d5
              clear hin hin' hd hd' CK cOv
              obtain ⟨_, _, _, dp, dl, dcap⟩ := d
              obtain ⟨_, _, _, fp, fl, fcap⟩ := d'
              simp only [slV] at c5 d5 kk
              have HU : Hid (∀ w', Below wr.heap.size wr w' → (w'.cell? ⟨bm, om + k * 6 + 5, none⟩ = some (.slice dp dl dcap) ∧ w'.cell? ⟨bl, ol + k * 6 + 5, none⟩ = some (.slice fp fl fcap))) := fun w' hb => ⟨(hb.cell (lt_of_cell c5)).trans c5, (hb.cell (lt_of_cell d5)).trans d5⟩
              have mD : (wr.drew.cell? ⟨bm, om + k * 6 + 5, none⟩ = some (.slice dp dl dcap) ∧ wr.drew.cell? ⟨bl, ol + k * 6 + 5, none⟩ = some (.slice fp fl fcap)) := HU.out _ (Below.refl _ _).drew
              have kk' : ∀ W, Below wr.heap.size wr W → Calls Tryz.prog 16 #[.slice dp dl dcap, .slice fp fl fcap] W fun r w' => r = .returned (.bool true) ∧ Below wr.heap.size wr w' := fun W hW => from_below hW (kk W (hbz.trans (hW.mono hbz.size)))
              have bD : Below wr.heap.size wr wr.drew := (Below.refl _ _).drew
              have HBW : Hid (Below w7.heap.size w7 wr) := hbw
              clear kk hbw hbz
              go_wp2_with fail
              go_region_held3 (fun w' => (w'.cell? ⟨bm, om + k * 6 + 5, none⟩ = some (.slice dp dl dcap) ∧ w'.cell? ⟨bl, ol + k * 6 + 5, none⟩ = some (.slice fp fl fcap)) ∧ Below wr.heap.size wr w')
                (exact ⟨by first | (with_reducible assumption) | (simp [*]; done), by first | (with_reducible assumption) | exact (Below.refl _ _).drew⟩)
                (first | (go_at_call 16; refine (kk' _ ?_).mono ?_; (· first | (with_reducible assumption) | (apply And.right; with_reducible assumption)); rintro r w8 ⟨rfl, b3⟩; have mm := HU.out _ b3))
              have b9 := HBW.out.trans (b3.mono HBW.out.size)
              go_wp2
              go_roundw
              case rel => exact ⟨k + 1, by omega, by go_num, rfl, b9⟩
              case measure => simp [RowKit.intOf]; omega
            · have hltI : ¬ (k : Int) < n := by omega
              have c8 := cOv.out wr hbz
              have hbv : Below w.heap.size w wr := HB3.out.trans (hbz.mono HB3.out.size)
              have HW : Hid (w.heap.size ≤ w2.heap.size ∧ w2.heap.size ≤ wr.heap.size) := ⟨HCe.out.1, Nat.le_trans HCe.out.2.1 hbz.size⟩
              have H8 : Hid (DelV wr w3.heap.size w3.heap.size (.pointer (some ⟨qd, 0, none⟩)) E ∧ FarO wr w3.heap.size (.slice pw m cw) D' ∧ ReD w D' E) := ⟨H7'.out.1.below hbw, H7'.out.2.1.below hbw, H7'.out.2.2⟩
              clear cOv CK hbz hbw hb7' H7'
              go_wp2_with fail
              refine c8.mono ?_; rintro r w8 ⟨rfl, ho8⟩
              have hb8 : Below w.heap.size w w8 := hbv.trans ((ho8.below HW.out.2).mono HW.out.1)
              have hf8 : FarO w8 w3.heap.size (.slice pw m cw) D' := farO_out9 H8.out.2.1 ho8 (Nat.le_refl _)
              have c9 := is_any _ (.slice pw m cw) E E w8 (delV_out9 H8.out.1 ho8 (Nat.le_refl _) (Nat.le_refl _)) HR.out.2 HR.out.1 ⟨D', hf8.row, H8.out.2.2.below hb8⟩ HR.out.1
              rw [decide_eq_true rfl] at c9
              clear c8 ho8 hbv H8 hf8
              go_wp2_with fail
              refine c9.mono ?_; rintro r w9 ⟨rfl, hb9⟩
              have hb9' := hb8.trans (hb9.mono hb8.size)
              go_wp2
              go_ret
              exact ⟨rfl, hb9'⟩
        | succ e =>
          obtain rfl := HD6.out.2.1 (by omega)
          obtain rfl := HD6.out.2.2 (by omega)
          obtain ⟨x, hx⟩ : ∃ x : Int, ((e + 1 : Nat) : Int) = x := ⟨_, rfl⟩
          have hx0 : (x != 0) = true := by rw [bne_iff_ne]; omega
          have hxx : (x != x) = false := bne_self_eq_false x
          rw [hx]
          clear HD6 HZ hx
          go_wp2_with fail
          refine c7.mono ?_; rintro r w7 ⟨rfl, hb7⟩
          have hb7' := hb6'.trans (hb7.mono hb6'.size)
          clear c7 hb7 hb6'
          go_wp2
          go_loopw [77, 3] (fun i s wr => ∃ (k : Nat), k ≤ n ∧ i = .int .i64 k ∧ s = .bool true ∧ Below w7.heap.size w7 wr) (fun i _ _ => n - (RowKit.intOf i).toNat)
          case atStart => exact ⟨0, Nat.zero_le _, rfl, rfl, Below.refl _ _⟩
          case round =>
            obtain ⟨k, hk, rfl, rfl, hbw⟩ := hrel
            have hbz := hb7'.trans (hbw.mono hb7'.size)
            by_cases hlt : k < n
            · have hltI : (k : Int) < n := by omega
              obtain ⟨d, hd⟩ : ∃ q, D[k]? = some q := ⟨_, List.getElem?_eq_getElem (by rw [HM.out.2.1]; exact hlt)⟩
              obtain ⟨d', hd'⟩ : ∃ q, C[k]? = some q := ⟨_, List.getElem?_eq_getElem (by rw [HL.out.2.1]; exact hlt)⟩
              have kk := CK.out k d d' hd hd'
              obtain ⟨bm, om, rfl, hin⟩ := HM.out.1 (by intro e; rw [e] at hd; simp at hd)
              obtain ⟨bl, ol, rfl, hin'⟩ := HL.out.1 (by intro e; rw [e] at hd'; simp at hd')
              have c5 := (hin.below hbz) _ _ (cellsC_get D k d hd).2.2.2.2.2
              have d5 := (hin'.below (HB3.out.trans (hbz.mono HB3.out.size))) _ _ (cellsC_get C k d' hd').2.2.2.2.2
              simp only [← Nat.add_assoc] at c5 d5
              clear hin hin' hd hd' CK cOv
              obtain ⟨_, _, _, dp, dl, dcap⟩ := d
              obtain ⟨_, _, _, fp, fl, fcap⟩ := d'
              simp only [slV] at c5 d5 kk
              have HU : Hid (∀ w', Below wr.heap.size wr w' → (w'.cell? ⟨bm, om + k * 6 + 5, none⟩ = some (.slice dp dl dcap) ∧ w'.cell? ⟨bl, ol + k * 6 + 5, none⟩ = some (.slice fp fl fcap))) := fun w' hb => ⟨(hb.cell (lt_of_cell c5)).trans c5, (hb.cell (lt_of_cell d5)).trans d5⟩
              have mD : (wr.drew.cell? ⟨bm, om + k * 6 + 5, none⟩ = some (.slice dp dl dcap) ∧ wr.drew.cell? ⟨bl, ol + k * 6 + 5, none⟩ = some (.slice fp fl fcap)) := HU.out _ (Below.refl _ _).drew
              have kk' : ∀ W, Below wr.heap.size wr W → Calls Tryz.prog 16 #[.slice dp dl dcap, .slice fp fl fcap] W fun r w' => r = .returned (.bool true) ∧ Below wr.heap.size wr w' := fun W hW => from_below hW (kk W (hbz.trans (hW.mono hbz.size)))
              have bD : Below wr.heap.size wr wr.drew := (Below.refl _ _).drew
              have HBW : Hid (Below w7.heap.size w7 wr) := hbw
              clear kk hbw hbz
              go_wp2_with fail
              go_region_held3 (fun w' => (w'.cell? ⟨bm, om + k * 6 + 5, none⟩ = some (.slice dp dl dcap) ∧ w'.cell? ⟨bl, ol + k * 6 + 5, none⟩ = some (.slice fp fl fcap)) ∧ Below wr.heap.size wr w')
                (exact ⟨by first | (with_reducible assumption) | (simp [*]; done), by first | (with_reducible assumption) | exact (Below.refl _ _).drew⟩)
                (first | (go_at_call 16; refine (kk' _ ?_).mono ?_; (· first | (with_reducible assumption) | (apply And.right; with_reducible assumption)); rintro r w8 ⟨rfl, b3⟩; have mm := HU.out _ b3))
              have b9 := HBW.out.trans (b3.mono HBW.out.size)
              go_wp2
              go_roundw
              case rel => exact ⟨k + 1, by omega, by go_num, rfl, b9⟩
              case measure => simp [RowKit.intOf]; omega
            · have hltI : ¬ (k : Int) < n := by omega
              have c8 := cOv.out wr hbz
              have hbv : Below w.heap.size w wr := HB3.out.trans (hbz.mono HB3.out.size)
              have HW : Hid (w.heap.size ≤ w2.heap.size ∧ w2.heap.size ≤ wr.heap.size) := ⟨HCe.out.1, Nat.le_trans HCe.out.2.1 hbz.size⟩
              clear cOv CK hbz hbw hb7'
              go_wp2_with fail
              refine c8.mono ?_; rintro r w8 ⟨rfl, ho8⟩
              have hb8 : Below w.heap.size w w8 := hbv.trans ((ho8.below HW.out.2).mono HW.out.1)
              clear c8 ho8 hbv
              go_wp2
              go_ret
              exact ⟨rfl, hb8⟩
end Go.Proofs.YtalfdjglbbmjcabGreatDoor
