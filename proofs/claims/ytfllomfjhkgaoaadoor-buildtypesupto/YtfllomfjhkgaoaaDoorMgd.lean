/- build: what a delta tells: Count, Ops, Pieces, Same. vellumhand.Make, Is; vellumlaw06's gone, text, large, lives. vellumlaw06.lives answers true. Canonical lists of operations in order are in order. build: own and Pieces: a delta's pieces, each with a list of its own. What vellumref03.Has answers: the first pair of a key. What vellumref03.whole, Over and Between answer. What vellumref03.Join answers of two patches: the one over the other. The document's answers of the attrs' calls as joins. What vellumref03.Between answers. What vellumref03.Compose, Apply, Diff, Invert and Transform answer. vellumhand.Attrs and Kept. vellumhand.OverAttrs: a list of the call's own is written over and grown: what that changes. vellumhand.Attrs: where the copy lies; what writing over a list leaves of others. build: Pieces: each piece's list lies in blocks of its own. Pieces that are written over one by one: what stays. Of all lists of operations vellumlaw06.BuildTypes answers true. -/
import Derived.Test.YtfllomfjhkgaoaaDoorMgc
import Derived.Test.YtfllomfjhkgaoaaDoorQh
import Derived.Test.YtfllomfjhkgaoaaDoorMga
import Derived.Test.YtfllomfjhkgaoaaDoorAx
import Derived.Deep.DeepCutAuto
import Derived.Test.YtfllomfjhkgaoaaDoorRk1
import Derived.Test.YtfllomfjhkgaoaaDoorSpo
import Derived.ArgAppend

/- build: what a delta tells: Count, Ops, Pieces, Same. -/
namespace Go.Proofs.YtfllomfjhkgaoaaDoor
open Go Go.RowKit Go.Lib
set_option linter.unusedVariables false

theorem count_any5 {B1 B2 : Nat} (v : Value) (E : List Op5) (w : World) (h : DelV w B1 B2 v E) :
    Calls Tryd.prog 13 #[v] w fun e w' => e = .returned (.int .i64 E.length) ∧ Below w.heap.size w w' := by
  obtain ⟨q, pv, PL, rfl, _, hq, hrow, hpie⟩ := h
  have c0 : w.cell? ⟨q, 0, none⟩ = some pv := by rw [cell_of_heap hq]; rfl
  obtain ⟨p, c, rfl⟩ := own_slice hrow
  have hl := forall2_len hpie
  rw [← hl]
  clear hq hrow hpie hl
  go_enter Tryd.func13, Tryd.ntmps13
  go_wp2
  go_ret
  exact ⟨rfl, Below.refl _ _⟩
theorem wpList_make_op (w : World) {ops : Array Oper} {rest : List Oper} {o : Oper} {a : Act} {Q : Exit → Act → World → Prop}
    (hg : o.guard = none) (l c : Operand) (hop : o.op = Op.makeSlice 22 l c) (base : Nat)
    (kl kc : IntKind) (C : Int) (n : Nat) (hl : a.eval l = .int kl 0) (hc : a.eval c = .int kc C) (hC : C = (n : Int)) (b2 : n ≤ 8388608) (b4 : base ≤ w.heap.size)
    (hK : ∀ v w', OwnO w' base v [] → w.grownBy w' none → wpList Tryd.prog ops Q rest (a.put o.dst v) w') :
    wpList Tryd.prog ops Q (o :: rest) a w := by
  obtain ⟨i, z, hi, hz, hz1, hz2, hz3⟩ := infoOp
  exact wpList_make_own w hg l c _ hop base 33 i z 7 Tryd.underlying22 hi hz hz1 kl kc C n hl hc hC (by rw [hz2]; omega) (by unfold maxLen; omega) b4 fun w' h1 h2 => hK _ w' h1 h2
theorem wpList_make_pi2 (w : World) {ops : Array Oper} {rest : List Oper} {o : Oper} {a : Act} {Q : Exit → Act → World → Prop}
    (hg : o.guard = none) (l c : Operand) (hop : o.op = Op.makeSlice 39 l c) (base : Nat)
    (kl kc : IntKind) (C : Int) (n : Nat) (hl : a.eval l = .int kl 0) (hc : a.eval c = .int kc C) (hC : C = (n : Int)) (b2 : n ≤ 8388608) (b4 : base ≤ w.heap.size)
    (hK : ∀ v w', OwnI w' base v [] → w.grownBy w' none → wpList Tryd.prog ops Q rest (a.put o.dst v) w') :
    wpList Tryd.prog ops Q (o :: rest) a w := by
  obtain ⟨i, z, hi, hz, hz1, hz2, hz3⟩ := infoPi
  exact wpList_make_own w hg l c _ hop base 43 i z 1 Tryd.underlying39 hi hz hz1 kl kc C n hl hc hC (by rw [hz2]; omega) (by unfold maxLen; omega) b4 fun w' h1 h2 => hK _ w' h1 h2
/-- What a loop over a delta's pieces reads. -/
theorem del_read {w : World} {B1 B2 q : Nat} {pv : Value} {PL : List Value} {E : List Op5} (hrow : OwnI w B1 pv PL) (hpie : PieD w B2 PL E) : ∃ p cap, pv = .slice p E.length cap ∧ ∀ k, k < E.length → ∃ ga e s, p = some ⟨ga, 0, none⟩ ∧ E[k]? = some e ∧ w.cell? ⟨ga, k, none⟩ = some (pieceQ e s) ∧ OwnA w B2 s e.A := by
  have hl := forall2_len hpie
  obtain ⟨p, cap, e⟩ := own_slice hrow
  refine ⟨p, cap, by rw [e, hl], fun k hk => ?_⟩
  obtain ⟨g, c, x, hv', hB, hx, hc⟩ := own_cell hrow k (by omega)
  obtain ⟨e', s, he, rfl, hs⟩ := oneI hpie hx
  rw [e] at hv'
  simp only [Value.slice.injEq] at hv'
  exact ⟨g, e', s, hv'.1, he, hc, hs⟩
set_option maxHeartbeats 4000000 in
set_option maxRecDepth 100000 in
theorem ops_any {B1 B2 : Nat} (v : Value) (E : List Op5) (w : World) (h : DelV w B1 B2 v E) (hg : ∀ o ∈ E, opE o = 0) (hA : ∀ o ∈ E, o.A.length ≤ 2097152) (hl : E.length ≤ 4194304) :
    Calls Tryd.prog 9 #[v] w fun e w' => ∃ v', e = .returned v' ∧ CoO w' w.heap.size v' E ∧ Below w.heap.size w w' := by
  obtain ⟨q, pv, PL, rfl, _, hq, hrow, hpie⟩ := h
  have c0 : w.cell? ⟨q, 0, none⟩ = some pv := by rw [cell_of_heap hq]; rfl
  obtain ⟨p, cap, rfl, hrd⟩ := del_read (q := q) hrow hpie
  have HV : Hid (∀ k, k < E.length → ∃ ga e s, p = some ⟨ga, 0, none⟩ ∧ E[k]? = some e ∧ w.cell? ⟨ga, k, none⟩ = some (pieceQ e s) ∧ OwnA w B2 s e.A) := hrd
  have HG : Hid (∀ o ∈ E, opE o = 0 ∧ o.A.length ≤ 2097152) := fun o ho => ⟨hg o ho, hA o ho⟩
  obtain ⟨n, hn⟩ : ∃ n, E.length = n := ⟨_, rfl⟩
  have HN : Hid (E.length = n) := hn
  rw [hn] at c0 hl HV
  clear hq hrow hpie hrd hg hA hn
  go_enter Tryd.func9, Tryd.ntmps9
  go_wp2_with (at_make; refine wpList_make_op _ rfl _ _ rfl w.heap.size .i64 .i64 _ n rfl rfl rfl (by omega) (Nat.le_refl _) ?_; intro v0 w1 hown hgr; have hb1 : Below w.heap.size w w1 := (Below.refl _ _).grown hgr (Nat.le_refl _) (fun k hk => by cases hk); have c1 := (hb1.cell (lt_of_cell c0)).trans c0; clear hgr)
  go_loopw [3, 17] (fun al i wr => ∃ (k : Nat) (D : List OV), k ≤ n ∧ i = .int .i64 k ∧ D.length = k ∧ OwnO wr w.heap.size al D ∧ OwD wr w.heap.size D (E.take k) ∧ Below w.heap.size w wr) (fun _ i _ => n - (RowKit.intOf i).toNat)
  case atStart => exact ⟨0, [], Nat.zero_le _, rfl, rfl, hown, .nil, hb1⟩
  case round =>
    clear hown hb1 c1
    obtain ⟨k, D, hk, rfl, hDl, hown, hsp, hbw⟩ := hrel
    by_cases hlt : k < n
    · have hltI : (k : Int) < n := by omega
      obtain ⟨ga, e, s, rfl, he, hc, hs⟩ := HV.out k hlt
      have c2 := (hbw.cell (lt_of_cell hc)).trans hc
      have hs2 := owns_below hs hbw
      obtain ⟨hg1, hA1⟩ := HG.out e (List.mem_of_getElem? he)
      have HT : Hid (E.take (k + 1) = E.take k ++ [e]) := by show _ = _; rw [List.take_add_one, he]; rfl
      have hge : Hid (∀ j, u3.ownBlock = some j → w.heap.size ≤ j) := fun j hj => (owns_block hown j hj).1
      have HO : Hid (OwnO wr w.heap.size u3 D ∧ OwD wr w.heap.size D (E.take k)) := ⟨hown, hsp⟩
      have hlen : D.length ≤ 8388608 := by omega
      have hlz : w.heap.size ≤ wr.heap.size := hbw.size
      have hkk := kinds_of hg1
      rcases hkk with hkk | hkk | hkk | hkk
      · have cO := opQ_1 hg1 hkk s wr (own_RN hs2) hA1
        obtain ⟨nn, hnn⟩ : ∃ x : Int, ((scs e.t.data.toList).length : Int) = x := ⟨_, rfl⟩
        rw [pieceQ_1 hkk] at c2
        rw [hnn] at c2 cO
        clear he hc hs hs2 hown hsp hg1 hA1 hkk hnn
        go_wp2_with fail
        refine cO.mono ?_; rintro r w5 ⟨v', rfl, own5, hb5⟩
        obtain ⟨p5, c5, rfl⟩ := own_slice own5
        have bw5 : Below w.heap.size w w5 := hbw.trans (hb5.mono hlz)
        obtain ⟨ek, et, ⟨ex, en, eu⟩, ec, eA⟩ := e
        have ba : Below w5.heap.size w5 (w5.alloc (.cells #[.int .i64 ek, .string et, .int .i64 ex, .int .i64 en, .string eu, .int .i64 ec, .slice p5 eA.length c5] 33)) := (Below.refl _ _).alloc (Nat.le_refl _) _
        have hat : OpAt (w5.alloc (.cells #[.int .i64 ek, .string et, .int .i64 ex, .int .i64 en, .string eu, .int .i64 ec, .slice p5 eA.length c5] 33)) w5.heap.size 0 (ek, et, (ex, en, eu), ec, p5, eA.length, c5) := ⟨by simp, by simp, by simp, by simp, by simp, by simp, by simp⟩
        have HO7 : Hid (OwnO (w5.alloc (.cells #[.int .i64 ek, .string et, .int .i64 ex, .int .i64 en, .string eu, .int .i64 ec, .slice p5 eA.length c5] 33)) w.heap.size u3 D ∧ OpAt (w5.alloc (.cells #[.int .i64 ek, .string et, .int .i64 ex, .int .i64 en, .string eu, .int .i64 ec, .slice p5 eA.length c5] 33)) w5.heap.size 0 (ek, et, (ex, en, eu), ec, p5, eA.length, c5)) := ⟨owns_below (owns_below HO.out.1 hb5) ba, hat⟩
        have HP7 : Hid (OwD (w5.alloc (.cells #[.int .i64 ek, .string et, .int .i64 ex, .int .i64 en, .string eu, .int .i64 ec, .slice p5 eA.length c5] 33)) w.heap.size (D ++ [(ek, et, (ex, en, eu), ec, p5, eA.length, c5)]) (E.take (k + 1))) := by
          show OwD _ _ _ _
          rw [HT.out]
          exact forall2_append ((HO.out.2.below hb5).below ba) (.cons ⟨rfl, rfl, rfl, rfl, own_weaken (owns_below own5 ba) hlz⟩ .nil)
        have bw7 := bw5.trans (ba.mono bw5.size)
        have hl33 : D.length ≤ 33554432 := by omega
        clear own5 hb5 bw5 ba hat HO HT cO c2
        go_wp2_with (at_builtin; refine wpList_append_ops rfl (.tmp 21) (.tmp 24) rfl w.heap.size u3 D rfl HO7.out.1 w5.heap.size 1 _ rfl HO7.out.2 hl33 bw7.size ?_; intro v8 w8 own8 gr8 hat8; have hsp8 : Hid (OwD w8 w.heap.size _ _) := HP7.out.keep (keepA_grownO HO7.out.1 gr8); have b8 := bw7.grown gr8 bw7.size (fun j hj => hge.out j hj); have HO8 : Hid (OwnO w8 w.heap.size v8 _) := own8; clear own8 gr8 hat8 HO7 HP7)
        go_roundw
        case rel => exact ⟨k + 1, _, by omega, by go_num, by simp [hDl], HO8.out, hsp8.out, b8⟩
        case measure => simp [RowKit.intOf]; omega
      · have cO := opQ_2 hg1 hkk s wr (own_RN hs2) hA1
        obtain ⟨V, hV⟩ : ∃ V, valP e.v = V := ⟨_, rfl⟩
        rw [pieceQ_2 hkk] at c2
        rw [hV] at c2 cO
        clear he hc hs hs2 hown hsp hg1 hA1 hkk hV
        go_wp2_with fail
        refine cO.mono ?_; rintro r w5 ⟨v', rfl, own5, hb5⟩
        obtain ⟨p5, c5, rfl⟩ := own_slice own5
        have bw5 : Below w.heap.size w w5 := hbw.trans (hb5.mono hlz)
        obtain ⟨ek, et, ⟨ex, en, eu⟩, ec, eA⟩ := e
        have ba : Below w5.heap.size w5 (w5.alloc (.cells #[.int .i64 ek, .string et, .int .i64 ex, .int .i64 en, .string eu, .int .i64 ec, .slice p5 eA.length c5] 33)) := (Below.refl _ _).alloc (Nat.le_refl _) _
        have hat : OpAt (w5.alloc (.cells #[.int .i64 ek, .string et, .int .i64 ex, .int .i64 en, .string eu, .int .i64 ec, .slice p5 eA.length c5] 33)) w5.heap.size 0 (ek, et, (ex, en, eu), ec, p5, eA.length, c5) := ⟨by simp, by simp, by simp, by simp, by simp, by simp, by simp⟩
        have HO7 : Hid (OwnO (w5.alloc (.cells #[.int .i64 ek, .string et, .int .i64 ex, .int .i64 en, .string eu, .int .i64 ec, .slice p5 eA.length c5] 33)) w.heap.size u3 D ∧ OpAt (w5.alloc (.cells #[.int .i64 ek, .string et, .int .i64 ex, .int .i64 en, .string eu, .int .i64 ec, .slice p5 eA.length c5] 33)) w5.heap.size 0 (ek, et, (ex, en, eu), ec, p5, eA.length, c5)) := ⟨owns_below (owns_below HO.out.1 hb5) ba, hat⟩
        have HP7 : Hid (OwD (w5.alloc (.cells #[.int .i64 ek, .string et, .int .i64 ex, .int .i64 en, .string eu, .int .i64 ec, .slice p5 eA.length c5] 33)) w.heap.size (D ++ [(ek, et, (ex, en, eu), ec, p5, eA.length, c5)]) (E.take (k + 1))) := by
          show OwD _ _ _ _
          rw [HT.out]
          exact forall2_append ((HO.out.2.below hb5).below ba) (.cons ⟨rfl, rfl, rfl, rfl, own_weaken (owns_below own5 ba) hlz⟩ .nil)
        have bw7 := bw5.trans (ba.mono bw5.size)
        have hl33 : D.length ≤ 33554432 := by omega
        clear own5 hb5 bw5 ba hat HO HT cO c2
        go_wp2_with (at_builtin; refine wpList_append_ops rfl (.tmp 21) (.tmp 24) rfl w.heap.size u3 D rfl HO7.out.1 w5.heap.size 1 _ rfl HO7.out.2 hl33 bw7.size ?_; intro v8 w8 own8 gr8 hat8; have hsp8 : Hid (OwD w8 w.heap.size _ _) := HP7.out.keep (keepA_grownO HO7.out.1 gr8); have b8 := bw7.grown gr8 bw7.size (fun j hj => hge.out j hj); have HO8 : Hid (OwnO w8 w.heap.size v8 _) := own8; clear own8 gr8 hat8 HO7 HP7)
        go_roundw
        case rel => exact ⟨k + 1, _, by omega, by go_num, by simp [hDl], HO8.out, hsp8.out, b8⟩
        case measure => simp [RowKit.intOf]; omega
      · have cO := opQ_3 hg1 hkk s wr (own_RN hs2) hA1
        rw [pieceQ_3 hkk] at c2
        clear he hc hs hs2 hown hsp hg1 hA1 hkk
        go_wp2_with fail
        refine cO.mono ?_; rintro r w5 ⟨v', rfl, own5, hb5⟩
        obtain ⟨p5, c5, rfl⟩ := own_slice own5
        have bw5 : Below w.heap.size w w5 := hbw.trans (hb5.mono hlz)
        obtain ⟨ek, et, ⟨ex, en, eu⟩, ec, eA⟩ := e
        have ba : Below w5.heap.size w5 (w5.alloc (.cells #[.int .i64 ek, .string et, .int .i64 ex, .int .i64 en, .string eu, .int .i64 ec, .slice p5 eA.length c5] 33)) := (Below.refl _ _).alloc (Nat.le_refl _) _
        have hat : OpAt (w5.alloc (.cells #[.int .i64 ek, .string et, .int .i64 ex, .int .i64 en, .string eu, .int .i64 ec, .slice p5 eA.length c5] 33)) w5.heap.size 0 (ek, et, (ex, en, eu), ec, p5, eA.length, c5) := ⟨by simp, by simp, by simp, by simp, by simp, by simp, by simp⟩
        have HO7 : Hid (OwnO (w5.alloc (.cells #[.int .i64 ek, .string et, .int .i64 ex, .int .i64 en, .string eu, .int .i64 ec, .slice p5 eA.length c5] 33)) w.heap.size u3 D ∧ OpAt (w5.alloc (.cells #[.int .i64 ek, .string et, .int .i64 ex, .int .i64 en, .string eu, .int .i64 ec, .slice p5 eA.length c5] 33)) w5.heap.size 0 (ek, et, (ex, en, eu), ec, p5, eA.length, c5)) := ⟨owns_below (owns_below HO.out.1 hb5) ba, hat⟩
        have HP7 : Hid (OwD (w5.alloc (.cells #[.int .i64 ek, .string et, .int .i64 ex, .int .i64 en, .string eu, .int .i64 ec, .slice p5 eA.length c5] 33)) w.heap.size (D ++ [(ek, et, (ex, en, eu), ec, p5, eA.length, c5)]) (E.take (k + 1))) := by
          show OwD _ _ _ _
          rw [HT.out]
          exact forall2_append ((HO.out.2.below hb5).below ba) (.cons ⟨rfl, rfl, rfl, rfl, own_weaken (owns_below own5 ba) hlz⟩ .nil)
        have bw7 := bw5.trans (ba.mono bw5.size)
        have hl33 : D.length ≤ 33554432 := by omega
        clear own5 hb5 bw5 ba hat HO HT cO c2
        go_wp2_with (at_builtin; refine wpList_append_ops rfl (.tmp 21) (.tmp 24) rfl w.heap.size u3 D rfl HO7.out.1 w5.heap.size 1 _ rfl HO7.out.2 hl33 bw7.size ?_; intro v8 w8 own8 gr8 hat8; have hsp8 : Hid (OwD w8 w.heap.size _ _) := HP7.out.keep (keepA_grownO HO7.out.1 gr8); have b8 := bw7.grown gr8 bw7.size (fun j hj => hge.out j hj); have HO8 : Hid (OwnO w8 w.heap.size v8 _) := own8; clear own8 gr8 hat8 HO7 HP7)
        go_roundw
        case rel => exact ⟨k + 1, _, by omega, by go_num, by simp [hDl], HO8.out, hsp8.out, b8⟩
        case measure => simp [RowKit.intOf]; omega
      · have cO := opQ_4 hg1 hkk wr
        rw [pieceQ_4 hkk] at c2
        clear he hc hs hs2 hown hsp hg1 hA1 hkk
        go_wp2_with fail
        refine cO.mono ?_; rintro r w5 ⟨v', rfl, own5, hb5⟩
        obtain ⟨p5, c5, rfl⟩ := own_slice own5
        have bw5 : Below w.heap.size w w5 := hbw.trans (hb5.mono hlz)
        obtain ⟨ek, et, ⟨ex, en, eu⟩, ec, eA⟩ := e
        have ba : Below w5.heap.size w5 (w5.alloc (.cells #[.int .i64 ek, .string et, .int .i64 ex, .int .i64 en, .string eu, .int .i64 ec, .slice p5 eA.length c5] 33)) := (Below.refl _ _).alloc (Nat.le_refl _) _
        have hat : OpAt (w5.alloc (.cells #[.int .i64 ek, .string et, .int .i64 ex, .int .i64 en, .string eu, .int .i64 ec, .slice p5 eA.length c5] 33)) w5.heap.size 0 (ek, et, (ex, en, eu), ec, p5, eA.length, c5) := ⟨by simp, by simp, by simp, by simp, by simp, by simp, by simp⟩
        have HO7 : Hid (OwnO (w5.alloc (.cells #[.int .i64 ek, .string et, .int .i64 ex, .int .i64 en, .string eu, .int .i64 ec, .slice p5 eA.length c5] 33)) w.heap.size u3 D ∧ OpAt (w5.alloc (.cells #[.int .i64 ek, .string et, .int .i64 ex, .int .i64 en, .string eu, .int .i64 ec, .slice p5 eA.length c5] 33)) w5.heap.size 0 (ek, et, (ex, en, eu), ec, p5, eA.length, c5)) := ⟨owns_below (owns_below HO.out.1 hb5) ba, hat⟩
        have HP7 : Hid (OwD (w5.alloc (.cells #[.int .i64 ek, .string et, .int .i64 ex, .int .i64 en, .string eu, .int .i64 ec, .slice p5 eA.length c5] 33)) w.heap.size (D ++ [(ek, et, (ex, en, eu), ec, p5, eA.length, c5)]) (E.take (k + 1))) := by
          show OwD _ _ _ _
          rw [HT.out]
          exact forall2_append ((HO.out.2.below hb5).below ba) (.cons ⟨rfl, rfl, rfl, rfl, own_weaken (owns_below own5 ba) hlz⟩ .nil)
        have bw7 := bw5.trans (ba.mono bw5.size)
        have hl33 : D.length ≤ 33554432 := by omega
        clear own5 hb5 bw5 ba hat HO HT cO c2
        go_wp2_with (at_builtin; refine wpList_append_ops rfl (.tmp 21) (.tmp 24) rfl w.heap.size u3 D rfl HO7.out.1 w5.heap.size 1 _ rfl HO7.out.2 hl33 bw7.size ?_; intro v8 w8 own8 gr8 hat8; have hsp8 : Hid (OwD w8 w.heap.size _ _) := HP7.out.keep (keepA_grownO HO7.out.1 gr8); have b8 := bw7.grown gr8 bw7.size (fun j hj => hge.out j hj); have HO8 : Hid (OwnO w8 w.heap.size v8 _) := own8; clear own8 gr8 hat8 HO7 HP7)
        go_roundw
        case rel => exact ⟨k + 1, _, by omega, by go_num, by simp [hDl], HO8.out, hsp8.out, b8⟩
        case measure => simp [RowKit.intOf]; omega
    · have hltI : ¬ (k : Int) < n := by omega
      have hE : E.take k = E := List.take_of_length_le (by rw [HN.out]; omega)
      rw [hE] at hsp
      have HX : Hid (CoO wr w.heap.size u3 E) := ⟨D, hown, hsp⟩
      clear hown hsp
      go_wp2
      go_ret
      exact ⟨_, rfl, HX.out, hbw⟩
end Go.Proofs.YtfllomfjhkgaoaaDoor

/- vellumhand.Make, Is; vellumlaw06's gone, text, large, lives. -/
namespace Go.Proofs.YtfllomfjhkgaoaaDoor
open Go Go.RowKit Go.Lib
set_option linter.unusedVariables false

set_option maxHeartbeats 1000000 in
theorem make_any {I : List Nat} {a : Nat → Addr} (v : Value) (E : List Op5) (w : World) (hI : ∀ i ∈ IxO, i ∈ I) (hS : Std I a w) (hv : ReO w v E) (hF : FitL E) (hl : E.length ≤ 1048576) (ht : txtS E ≤ 8388608) :
    Calls Tryd.prog 8 #[v] w fun r w' => ∃ dv, r = .returned dv ∧ ((ofE 0 0 E).2 = 0 → DelV w' w.heap.size w.heap.size dv (canonL E)) ∧ ((ofE 0 0 E).2 ≠ 0 → dv = .pointer none) ∧ Below w.heap.size w w' := by
  have c1 := buildOf_any v E w hI hS hv hF hl ht
  obtain ⟨D, ⟨p, cap, rfl, _, _, _⟩, hre⟩ := hv
  rw [forall2_len hre] at c1 ⊢
  clear hS hI hF hre ht
  obtain ⟨x, hx⟩ : ∃ x, ofE 0 0 E = x := ⟨_, rfl⟩
  rw [hx] at c1 ⊢
  clear hx
  obtain ⟨i, e⟩ := x
  obtain ⟨i1, hi1⟩ : ∃ z : Int, (i : Int) = z := ⟨_, rfl⟩
  simp only at c1 ⊢
  rw [hi1] at c1
  clear hi1
  cases e with
  | zero =>
    rw [errOf_zero] at c1
    go_enter Tryd.func8, Tryd.ntmps8
    go_wp2_with fail
    refine c1.mono ?_; rintro r w2 ⟨dv, rfl, hd, _, hb2⟩
    obtain ⟨q, pv, PL, rfl, hq⟩ := hd (by first | trivial | rfl)
    have HD : Hid (DelV w2 w.heap.size w.heap.size (.pointer (some ⟨q, 0, none⟩)) (canonL E)) := ⟨q, pv, PL, rfl, hq⟩
    clear c1 hd hq
    go_wp2
    go_ret
    exact ⟨_, rfl, fun _ => HD.out, fun h => absurd rfl h, hb2⟩
  | succ e =>
    rw [errOf_succ] at c1
    go_enter Tryd.func8, Tryd.ntmps8
    go_wp2_with fail
    refine c1.mono ?_; rintro r w2 ⟨dv, rfl, _, hd, hb2⟩
    obtain rfl := hd (by omega)
    clear c1 hd
    go_wp2
    go_ret
    exact ⟨_, rfl, fun h => (by cases h), fun _ => rfl, hb2⟩
/-- Lists that the calls read. -/
structure OkR (E : List Op5) : Prop where
  n : ∀ o ∈ E, o.A.length ≤ 1048576
  len : E.length ≤ 2097152
set_option maxHeartbeats 1000000 in
theorem is_any {B1 B2 : Nat} (d v : Value) (E F : List Op5) (w : World) (h : DelV w B1 B2 d E) (hg : ∀ o ∈ E, opE o = 0) (hE : OkR E) (hv : ReO w v F) (hF : OkR F) :
    Calls Tryd.prog 11 #[d, v] w fun r w' => r = .returned (.bool (decide (E = F))) ∧ Below w.heap.size w w' := by
  have c1 := ops_any d E w h hg (fun o ho => by have := hE.n o ho; omega) (by have := hE.len; omega)
  have c2 : Hid (∀ W v', Below w.heap.size w W → ReO W v' E → Calls Tryd.prog 23 #[v', v] W fun r w' => r = .returned (.bool (decide (E = F))) ∧ Below W.heap.size W w') := fun W v' hW h' => same6_any v' v E F W h' (hv.below hW) hE.len hF.len hE.n hF.n
  have c3 : Hid (∀ W, Below w.heap.size w W → Calls Tryd.prog 13 #[d] W fun e w' => e = .returned (.int .i64 E.length) ∧ Below W.heap.size W w') := fun W hW => count_any5 d E W (h.below hW)
  obtain ⟨q, pv, PL, rfl, _⟩ := h
  obtain ⟨D, ⟨p, cap, rfl, _, _, _⟩, hre⟩ := hv
  have hl := forall2_len hre
  rw [hl] at c2 ⊢
  obtain ⟨R, hR⟩ : ∃ x, decide (E = F) = x := ⟨_, rfl⟩
  rw [hR] at c2 ⊢
  have hlen : R = true → ((E.length : Int) == (F.length : Int)) = true := fun h => by
    rw [h] at hR
    rw [of_decide_eq_true hR]; simp
  clear hg hE hF hre hl hR
  go_enter Tryd.func11, Tryd.ntmps11
  go_wp2_with fail
  refine c1.mono ?_; rintro r w2 ⟨v', rfl, hco, hb2⟩
  have c4 := c2.out w2 v' hb2 hco.re
  clear c1 c2 hco
  go_wp2_with fail
  refine c4.mono ?_; rintro r w3 ⟨rfl, hb3⟩
  have b3 := hb2.trans (hb3.mono hb2.size)
  clear c4 hb2 hb3
  cases R with
  | true =>
    have c5 := c3.out w3 b3
    have hl2 := hlen rfl
    clear c3 hlen
    go_wp2_with fail
    refine c5.mono ?_; rintro r w4 ⟨rfl, hb4⟩
    have b4 := b3.trans (hb4.mono b3.size)
    clear c5 b3 hb4
    go_wp2
    go_ret
    exact ⟨rfl, b4⟩
  | false =>
    clear c3 hlen
    go_wp2
    go_ret
    exact ⟨rfl, b3⟩
set_option maxHeartbeats 1000000 in
theorem gone_any (n : Int) (w : World) : Calls Tryd.prog 19 #[.int .i64 n] w fun r w' => r = .returned (opV (delO n) (.slice none 0 0)) ∧ Below w.heap.size w w' := by
  go_enter Tryd.func19, Tryd.ntmps19
  go_wp2
  exact bodyPost_ret (v := opV (delO n) (.slice none 0 0)) (by simp [results, Tryd.results19, go_sem, delO, z0]) rfl ⟨rfl, by go_grown⟩
/-- A text to insert. -/
def txtO (t : ByteArray) : Op5 := ⟨1, t, z0, 0, []⟩
set_option maxHeartbeats 1000000 in
theorem text_any (t : ByteArray) (w : World) : Calls Tryd.prog 20 #[.string t] w fun r w' => r = .returned (opV (txtO t) (.slice none 0 0)) ∧ Below w.heap.size w w' := by
  go_enter Tryd.func20, Tryd.ntmps20
  go_wp2
  exact bodyPost_ret (v := opV (txtO t) (.slice none 0 0)) (by simp [results, Tryd.results20, go_sem, txtO, z0]) rfl ⟨rfl, by go_grown⟩

/-- How large a list is. -/
def larN (E : List Op5) : Int := (E.map fun o => (o.t.size : Int) + 10 * o.A.length + 10).sum
theorem larN_append (E F : List Op5) : larN (E ++ F) = larN E + larN F := by unfold larN; rw [List.map_append, List.sum_append]
theorem larN_one (o : Op5) : larN [o] = (o.t.size : Int) + 10 * o.A.length + 10 := by simp [larN]
theorem larN_le {E : List Op5} (h : FitL E) : 0 ≤ larN E ∧ larN E ≤ 20000000 * E.length := by
  induction E with
  | nil => simp [larN]
  | cons o r ih =>
    obtain ⟨h1, h2⟩ := ih (fun x hx => h x (List.mem_cons_of_mem _ hx))
    have ho := h o (List.mem_cons_self ..)
    have e : larN (o :: r) = (o.t.size : Int) + 10 * o.A.length + 10 + larN r := by simp [larN]
    have a1 := ho.t
    have a2 := ho.n
    rw [e, List.length_cons]
    omega
theorem larN_txt (E : List Op5) : (txtS E : Int) + 10 * E.length ≤ larN E := by
  induction E with
  | nil => simp [larN, txtS]
  | cons o r ih =>
    have e : larN (o :: r) = (o.t.size : Int) + 10 * o.A.length + 10 + larN r := by simp [larN]
    have e2 : txtS (o :: r) = o.t.size + txtS r := by simp [txtS]
    rw [e, e2, List.length_cons]
    omega
theorem larN_mem {E : List Op5} {o : Op5} (h : o ∈ E) : (o.t.size : Int) + 10 * o.A.length + 10 ≤ larN E := by
  induction E with
  | nil => cases h
  | cons x r ih =>
    have e : larN (x :: r) = (x.t.size : Int) + 10 * x.A.length + 10 + larN r := by simp [larN]
    have := larN_txt r
    rcases List.mem_cons.1 h with rfl | h
    · omega
    · have := ih h; omega
set_option maxHeartbeats 2000000 in
set_option maxRecDepth 100000 in
theorem large_any (v : Value) (E : List Op5) (w : World) (hv : ReO w v E) (hF : FitL E) (hl : E.length ≤ 1048576) :
    Calls Tryd.prog 7 #[v] w fun r w' => r = .returned (.bool (decide (60000 < larN E))) ∧ Below w.heap.size w w' := by
  obtain ⟨D0, hrow, hre⟩ := hv
  have hDE := forall2_len hre
  obtain ⟨n, hn⟩ : ∃ n, D0.length = n := ⟨_, rfl⟩
  obtain ⟨p, cap, rfl, hcap, hnz, hc⟩ := hrow
  have HC : Hid (∀ (j : Nat) (d : OV), D0[j]? = some d → ∃ b off, p = some ⟨b, off, none⟩ ∧ OpAt w b (off + j * 7) d) := hc
  have HN : Hid (D0.length = n ∧ E.length = n) := ⟨hn, by rw [← hDE, hn]⟩
  have hl : n ≤ 1048576 := by rw [← hn, hDE]; exact hl
  have HF : Hid (FitL E) := hF
  have HE : Hid (∀ (k : Nat) (d : OV), D0[k]? = some d → ∃ e : Op5, E[k]? = some e ∧ d.2.1 = e.t ∧ d.2.2.2.2.2.1 = e.A.length) := fun k d h => by
    obtain ⟨y, hy, r⟩ := forall2_get hre k d h
    obtain ⟨q, c, e1, _⟩ := r.2.2.2.2.row.val
    refine ⟨y, hy, r.2.1, ?_⟩
    simp only [slV, Value.slice.injEq] at e1
    exact e1.2.1
  rw [hn] at hcap ⊢
  clear hc hn hDE hre hnz hF
  go_enter Tryd.func7, Tryd.ntmps7
  go_wp2
  go_loopw [3, 8] (fun s i wr => ∃ (k : Nat) (z : Int), k ≤ n ∧ i = .int .i64 k ∧ s = .int .i64 z ∧ 0 ≤ z ∧ z ≤ 20000000 * k ∧ Hid (larN (E.take k) = z) ∧ Below w.heap.size w wr) (fun _ i _ => n - (RowKit.intOf i).toNat)
  case atStart => exact ⟨0, 0, Nat.zero_le _, rfl, rfl, by omega, by omega, by show larN (E.take 0) = 0; simp [larN], Below.refl _ _⟩
  case round =>
    obtain ⟨k, z, hk, rfl, rfl, hz0, hz1, HZ, hbw⟩ := hrel
    by_cases hlt : k < n
    · have hltI : (k : Int) < n := by omega
      obtain ⟨d, hd⟩ : ∃ d, D0[k]? = some d := ⟨_, List.getElem?_eq_getElem (by rw [HN.out.1]; exact hlt)⟩
      obtain ⟨e, he, het, hel⟩ := HE.out k d hd
      obtain ⟨b, off, rfl, hp⟩ := HC.out k d hd
      obtain ⟨c0, c1, c2, c3, c4, c5, c6⟩ := hp.below hbw
      have hfe := HF.out e (List.mem_of_getElem? he)
      have hT1 := hfe.t
      have hT2 := hfe.n
      have HS : Hid (larN (E.take (k + 1)) = z + ((e.t.size : Int) + 10 * e.A.length + 10)) := by
        show _ = _
        rw [List.take_add_one, he, Option.toList_some, larN_append, larN_one, HZ.out]
      clear hd he hp HZ hfe
      obtain ⟨dk, dt, ⟨dx, dn, du⟩, dc, ds⟩ := d
      obtain ⟨dp, dl, dcap⟩ := ds
      simp only at het hel
      rw [← het, ← hel] at HS
      rw [← het] at hT1
      rw [← hel] at hT2
      clear het hel
      simp only [slV] at c0 c1 c2 c3 c4 c5 c6
      obtain ⟨s, hs⟩ : ∃ s : Int, (dt.size : Int) = s := ⟨_, rfl⟩
      obtain ⟨L, hL⟩ : ∃ s : Int, (dl : Int) = s := ⟨_, rfl⟩
      have hs1 : 0 ≤ s ∧ s ≤ 8388608 := by omega
      have hL1 : 0 ≤ L ∧ L ≤ 1048576 := by omega
      obtain ⟨hs1, hs2⟩ := hs1
      obtain ⟨hL1, hL2⟩ := hL1
      rw [hs, hL] at HS
      have hk2 : (k : Int) ≤ 1048576 := by omega
      go_wp2
      go_roundw
      case rel => exact ⟨k + 1, z + (s + 10 * L + 10), by omega, by go_num, rfl, by omega, by omega, HS.out, hbw.alloc hbw.size _⟩
      case measure => simp [RowKit.intOf]; omega
    · have hltI : ¬ (k : Int) < n := by omega
      have hE : E.take k = E := List.take_of_length_le (by rw [HN.out.2]; omega)
      rw [hE] at HZ
      go_wp2
      go_ret
      exact ⟨by rw [HZ.out]; rfl, hbw⟩
end Go.Proofs.YtfllomfjhkgaoaaDoor

/- vellumlaw06.lives answers true. -/
namespace Go.Proofs.YtfllomfjhkgaoaaDoor
open Go Go.RowKit Go.Lib
set_option linter.unusedVariables false

/-- A row of operations laid at once. -/
theorem row_blk {w : World} {b : Nat} {D : List OV} (h : w.heap[b]? = some (.cells (cellsO D).toArray 33 (0, 0))) : RowO w (.slice (some ⟨b, 0, none⟩) D.length D.length) D := by
  refine ⟨some ⟨b, 0, none⟩, D.length, rfl, Nat.le_refl _, fun h => (by cases h), fun j d hd => ⟨b, 0, rfl, ?_⟩⟩
  obtain ⟨k0, k1, k2, k3, k4, k5, k6⟩ := cellsO_get D j d hd
  have e : ∀ i u, (cellsO D)[i]? = some u → w.cell? ⟨b, i, none⟩ = some u := fun i u hu => by
    rw [cell_of_heap h]
    rw [List.getElem?_toArray]
    exact hu
  rw [Nat.zero_add]
  exact ⟨e _ _ k0, e _ _ k1, e _ _ k2, e _ _ k3, e _ _ k4, e _ _ k5, e _ _ k6⟩
/-- An operation without attributes, as it lies in memory. -/
abbrev ovN (o : Op5) : OV := (o.k, o.t, o.v, o.c, (none, 0, 0))
theorem re_blk {w : World} {b : Nat} {E : List Op5} (h : w.heap[b]? = some (.cells (cellsO (E.map ovN)).toArray 33 (0, 0))) (hA : ∀ o ∈ E, o.A = []) : ReO w (.slice (some ⟨b, 0, none⟩) E.length E.length) E := by
  refine ⟨E.map ovN, ?_, ?_⟩
  · have := row_blk h
    rw [List.length_map] at this
    exact this
  · clear h
    induction E with
    | nil => exact .nil
    | cons o r ih =>
      refine .cons ⟨rfl, rfl, rfl, rfl, ?_⟩ (ih fun x hx => hA x (List.mem_cons_of_mem _ hx))
      rw [hA o (List.mem_cons_self ..)]
      exact RN.nil w
def live0 : List Op5 := [delO 1, txtO ⟨#[97]⟩, delO 2, txtO ⟨#[98]⟩, ⟨3, ⟨#[]⟩, z0, 3, []⟩]
def live1 : List Op5 := [txtO ⟨#[97, 98]⟩, delO 3]
theorem live0_ok : ofE 0 0 live0 = (0, 0) := by kernel_rfl
theorem live0_canon : canonL live0 = live1 := by kernel_rfl
theorem fit_nil {o : Op5} (h1 : o.t.size ≤ 8388608) (h2 : o.v.2.2.size ≤ 1048576) (h3 : o.A = []) : Fit o := ⟨h1, h2, fun q hq => (by rw [h3] at hq; cases hq), by rw [h3]; simp⟩
theorem live0_nil : ∀ o ∈ live0, o.A = [] := by
  intro o ho
  simp only [live0, List.mem_cons, List.not_mem_nil, or_false] at ho
  rcases ho with rfl | rfl | rfl | rfl | rfl <;> rfl
theorem live1_nil : ∀ o ∈ live1, o.A = [] := by
  intro o ho
  simp only [live1, List.mem_cons, List.not_mem_nil, or_false] at ho
  rcases ho with rfl | rfl <;> rfl
theorem live0_fit : FitL live0 := by
  intro o ho
  refine fit_nil ?_ ?_ (live0_nil o ho)
  all_goals
    simp only [live0, List.mem_cons, List.not_mem_nil, or_false] at ho
    rcases ho with rfl | rfl | rfl | rfl | rfl <;> decide
theorem live1_okR : OkR live1 := ⟨fun o ho => by rw [live1_nil o ho]; simp, by decide⟩
theorem live1_good : ∀ o ∈ live1, opE o = 0 := by
  intro o ho
  simp only [live1, List.mem_cons, List.not_mem_nil, or_false] at ho
  rcases ho with rfl | rfl <;> kernel_rfl
set_option maxHeartbeats 2000000 in
set_option maxRecDepth 100000 in
theorem lives_any {I : List Nat} {a : Nat → Addr} (w : World) (hI : ∀ i ∈ IxO, i ∈ I) (hS : Std I a w) :
    Calls Tryd.prog 6 #[] w fun r w' => r = .returned (.bool true) ∧ Below w.heap.size w w' := by
  have CO : Hid (∀ W b, Below w.heap.size w W → W.heap[b]? = some (.cells (cellsO (live0.map ovN)).toArray 33 (0, 0)) → Calls Tryd.prog 18 #[.slice (some ⟨b, 0, none⟩) 5 5] W fun r w' => ∃ dv, r = .returned (.tuple #[dv, .int .i64 0, .nilIface]) ∧ (∃ q, dv = .pointer (some ⟨q, 0, none⟩)) ∧ DelV w' W.heap.size W.heap.size dv live1 ∧ Below W.heap.size W w') := fun W b hW hb => by
    refine (buildOf_any _ live0 W hI (hS.below hW) (re_blk hb live0_nil) live0_fit (by decide) (by decide)).mono ?_
    rintro r w' ⟨dv, h1, h2, _, h4⟩
    rw [live0_ok] at h1 h2
    rw [live0_canon] at h2
    have h5 := h2 rfl
    obtain ⟨q, pv, PL, e, _⟩ := id h5
    exact ⟨dv, h1, ⟨q, e⟩, h5, h4⟩
  have CI : Hid (∀ W b dv B1 B2, DelV W B1 B2 dv live1 → W.heap[b]? = some (.cells (cellsO (live1.map ovN)).toArray 33 (0, 0)) → Calls Tryd.prog 11 #[dv, .slice (some ⟨b, 0, none⟩) 2 2] W fun r w' => r = .returned (.bool true) ∧ Below W.heap.size W w') := fun W b dv B1 B2 h hb => by
    have := is_any dv (.slice (some ⟨b, 0, none⟩) 2 2) live1 live1 W h live1_good live1_okR (re_blk hb live1_nil) live1_okR
    rw [decide_eq_true rfl] at this
    exact this
  clear hS hI
  go_enter Tryd.func6, Tryd.ntmps6
  go_wp2_with fail
  refine (gone_any _ _).mono ?_; rintro r w1 ⟨rfl, hb1⟩
  go_wp2_with fail
  refine (text_any _ _).mono ?_; rintro r w2 ⟨rfl, hb2⟩
  have b2 := hb1.trans (hb2.mono hb1.size)
  clear hb1 hb2
  go_wp2_with fail
  refine (gone_any _ _).mono ?_; rintro r w3 ⟨rfl, hb3⟩
  have b3 := b2.trans (hb3.mono b2.size)
  clear b2 hb3
  go_wp2_with fail
  refine (text_any _ _).mono ?_; rintro r w4 ⟨rfl, hb4⟩
  have b4 := b3.trans (hb4.mono b3.size)
  clear b3 hb4
  go_wp2_with fail
  refine (CO.out _ _ (b4.alloc b4.size _) (heap_alloc_new w4 _)).mono ?_; rintro r w5 ⟨dv, rfl, ⟨q, rfl⟩, hd5, hb5⟩
  have b5 := (b4.alloc b4.size _).trans (hb5.mono (Nat.le_trans b4.size (by rw [World.size_alloc]; omega)))
  have HD5 : Hid (∃ B1 B2, DelV w5 B1 B2 (.pointer (some ⟨q, 0, none⟩)) live1) := ⟨_, _, hd5⟩
  clear hb5 hd5 CO b4
  go_wp2_with fail
  refine (text_any _ _).mono ?_; rintro r w6 ⟨rfl, hb6⟩
  have b6 := b5.trans (hb6.mono b5.size)
  have HD6 : Hid (∃ B1 B2, DelV w6 B1 B2 (.pointer (some ⟨q, 0, none⟩)) live1) := by obtain ⟨_, _, h⟩ := HD5.out; exact ⟨_, _, h.below hb6⟩
  clear hb6 b5 HD5
  go_wp2_with fail
  refine (gone_any _ _).mono ?_; rintro r w7 ⟨rfl, hb7⟩
  have b7 := b6.trans (hb7.mono b6.size)
  have HD7 : Hid (∃ B1 B2, DelV w7 B1 B2 (.pointer (some ⟨q, 0, none⟩)) live1) := by obtain ⟨_, _, h⟩ := HD6.out; exact ⟨_, _, h.below hb7⟩
  clear hb7 b6 HD6
  obtain ⟨B1, B2, hd7⟩ := HD7.out
  have HD : Hid (DelV w7 B1 B2 (.pointer (some ⟨q, 0, none⟩)) live1) := hd7
  clear hd7 HD7
  go_wp2_with fail
  refine (CI.out _ _ _ B1 B2 (HD.out.below ((Below.refl _ _).alloc (Nat.le_refl _) _)) (heap_alloc_new w7 _)).mono ?_; rintro r w8 ⟨rfl, hb8⟩
  have b8 := (b7.alloc b7.size _).trans (hb8.mono (Nat.le_trans b7.size (by rw [World.size_alloc]; omega)))
  clear hb8 b7 CI HD
  go_wp2_with fail
  refine (empty_any w8).mono ?_; rintro r w9 ⟨v9, rfl, ⟨q9, pv9, PL9, rfl, _⟩, hb9⟩
  have b9 := b8.trans (hb9.mono b8.size)
  clear hb9 b8
  go_wp2_with fail
  refine (new_any (B := 0) (D := fun _ => False) w9 (Nat.zero_le _) (by simp)).mono ?_; rintro r w10 ⟨rfl, _, hb10⟩
  have b10 := b9.trans (hb10.mono b9.size)
  clear hb10 b9
  go_wp2
  go_ret
  exact ⟨rfl, b10⟩
end Go.Proofs.YtfllomfjhkgaoaaDoor

/- Canonical lists of operations in order are in order. -/
namespace Go.Proofs.YtfllomfjhkgaoaaDoor
open Go Go.RowKit Go.Lib
set_option linter.unusedVariables false

theorem trim_sub (P : List Op5) : (∀ x ∈ trimL P, x ∈ P) ∧ txtS (trimL P) ≤ txtS P ∧ (trimL P).length ≤ P.length := by
  rcases List.eq_nil_or_concat P with rfl | ⟨F, x, rfl⟩
  · exact ⟨fun x h => h, Nat.le_refl _, Nat.le_refl _⟩
  · rw [List.concat_eq_append]
    have e : trimL (F ++ [x]) = if plainR x then F else F ++ [x] := by
      unfold trimL
      rw [List.getLast?_concat, List.dropLast_concat]
    rw [e]
    split
    · exact ⟨fun y h => List.mem_append_left _ h, by rw [txtS_append]; omega, by simp⟩
    · exact ⟨fun y h => h, Nat.le_refl _, Nat.le_refl _⟩
/-- The canonical list of operations in order is in order, and no greater. -/
theorem canon_ok {E : List Op5} (h : OkE E) : OkE (canonL E) ∧ txtS (canonL E) ≤ txtS E ∧ (canonL E).length ≤ E.length := by
  have hz : BSz (bldR E) E.length (txtS E) := by
    have := bldR_sz E BSz.nil h.fit
    rw [Nat.zero_add, Nat.zero_add] at this
    exact this
  obtain ⟨c1, c2, c3, c4⟩ := canon_spec h.wel
  obtain ⟨s1, s2⟩ := canon_sums h.wel
  have key : (∀ x ∈ canonL E, FitA x) ∧ txtS (canonL E) ≤ txtS E ∧ (canonL E).length ≤ E.length := by
    rw [← finB_canon h.wel]
    obtain ⟨a, b, c⟩ := hz.set
    have a2 := hz.fit
    have b2 := hz.txt
    have c2 := hz.len
    unfold finB
    by_cases h0 : 0 < (bldR E).2
    · rw [if_pos h0]
      unfold setB at a b c
      rw [if_pos h0] at a b c
      exact ⟨a, b, c⟩
    · rw [if_neg h0]
      obtain ⟨t1, t2, t3⟩ := trim_sub (bldR E).1
      exact ⟨fun x hx => a2 x (t1 x hx), by omega, by omega⟩
  have hb := h.base
  have hr := h.res
  have ht := h.txt
  have hl := h.len
  exact ⟨⟨wel_good c1 (by omega), key.1, by omega, by omega, by omega, by omega⟩, key.2⟩
theorem OkE.okR {E : List Op5} (h : OkE E) (hl : E.length ≤ 2097152) : OkR E := ⟨fun o ho => (h.fit o ho).n, hl⟩
theorem OkE.fitL {E : List Op5} (h : OkE E) : FitL E := fitA_all h.fit h.txt
/-- A list that isn't large. -/
theorem small_of {E : List Op5} (h : decide (60000 < larN E) = false) : txtS E ≤ 60000 ∧ E.length ≤ 6000 ∧ ∀ o ∈ E, o.A.length ≤ 6000 := by
  have h1 := of_decide_eq_false h
  have h2 := larN_txt E
  exact ⟨by omega, by omega, fun o ho => by have := larN_mem ho; omega⟩
/-- What a loop over a list of the call's own and over a row of pieces reads. -/
theorem both_read {w : World} {B1 B2 : Nat} {v1 v2 : Value} {P : List Value} {C : List Op5} (h1 : CoO w B1 v1 C) (h2 : OwnI w B2 v2 P) (h3 : PieD w B2 P C) :
    ∃ p1 c1 p2 c2, v1 = .slice p1 C.length c1 ∧ v2 = .slice p2 C.length c2 ∧ ∀ m, m < C.length → ∃ (e : Op5) (d : OV) (b ga : Nat) (s : Value), C[m]? = some e ∧ p1 = some ⟨b, 0, none⟩ ∧ OpAt w b (0 + m * 7) d ∧ ovV d = opV e (slV d.2.2.2.2) ∧ d.1 = e.k ∧ OwnA w B1 (slV d.2.2.2.2) e.A ∧ p2 = some ⟨ga, 0, none⟩ ∧ w.cell? ⟨ga, m, none⟩ = some (pieceQ e s) ∧ OwnA w B2 s e.A := by
  obtain ⟨D, hD, hO⟩ := h1
  have hl1 := forall2_len hO
  have hl2 := forall2_len h3
  obtain ⟨p1, c1, e1⟩ := own_slice hD
  obtain ⟨p2, c2, e2⟩ := own_slice h2
  refine ⟨p1, c1, p2, c2, by rw [e1, hl1], by rw [e2, hl2], fun m hm => ?_⟩
  obtain ⟨ga, c, x, hv', hB, hx, hc⟩ := own_cell h2 m (by omega)
  obtain ⟨e, s, he, rfl, hs⟩ := oneI h3 hx
  rw [e2] at hv'
  simp only [Value.slice.injEq] at hv'
  have hd : D[m]? = some (D[m]'(by omega)) := List.getElem?_eq_getElem (by omega)
  obtain ⟨y, hy, r⟩ := forall2_get hO m _ hd
  obtain rfl : y = e := Option.some.inj (hy.symm.trans he)
  rcases hD.2 with ⟨_, h0⟩ | ⟨g, cap, cur, e3, _, _, _, _, _, _⟩
  · omega
  · rw [e1] at e3
    simp only [Value.slice.injEq] at e3
    have hD' := hD
    unfold OwnO at hD'
    rw [e1, e3.1] at hD'
    have hat := own_opAt hD' m _ hd
    exact ⟨y, D[m]'(by omega), g, ga, s, he, e3.1, hat, opV_of ⟨r.1, r.2.1, r.2.2.1, r.2.2.2.1, own_RN r.2.2.2.2⟩, r.1, r.2.2.2.2, hv'.1, hc, hs⟩
end Go.Proofs.YtfllomfjhkgaoaaDoor

/- build: own and Pieces: a delta's pieces, each with a list of its own. -/
namespace Go.Proofs.YtfllomfjhkgaoaaDoor
open Go Go.RowKit Go.Lib
set_option linter.unusedVariables false

theorem as_r_e6 (v : Value) (W : World) : (Instr.typeAssert (.iface 63 v) 43 60 true).run Tryd.prog W = .ok (.tuple #[.agg #[.slice none 0 0, .string ⟨#[]⟩, .nilIface], .bool false]) W := by kernel_rfl
theorem as_d_e6 (v : Value) (W : World) : (Instr.typeAssert (.iface 65 v) 43 60 true).run Tryd.prog W = .ok (.tuple #[.agg #[.slice none 0 0, .string ⟨#[]⟩, .nilIface], .bool false]) W := by kernel_rfl
set_option maxHeartbeats 2000000 in
set_option maxRecDepth 100000 in
theorem own1_any (p : Option Addr) (l c : Nat) (t : ByteArray) (n : Int) (A : List A2) (w : World) (hR : RN w (.slice p l c) A) (hl : A.length ≤ 2097152) :
    Calls Tryd.prog 24 #[.iface 55 (.agg #[.slice p l c, .string t, .int .i64 n])] w fun r w' => ∃ p' c', r = .returned (.iface 55 (.agg #[.slice p' A.length c', .string t, .int .i64 n])) ∧ OwnA w' w.heap.size (.slice p' A.length c') A ∧ Below w.heap.size w w' := by
  have b0 : Below w.heap.size w (w.alloc (.cells #[.slice p l c, .string t, .int .i64 n] 55)) := (Below.refl _ _).alloc (Nat.le_refl _) _
  have k0 := heap_alloc_new w (.cells #[.slice p l c, .string t, .int .i64 n] 55)
  have cA := attributes_any (.slice p l c) A _ (hR.below b0).row hR.nz hl
  clear hR hl
  have a0 := as_i_i
  go_enter Tryd.func24, Tryd.ntmps24
  go_wp2_with fail
  refine cA.mono ?_; rintro r w2 ⟨v', rfl, own2, hb2⟩
  obtain ⟨p', c', rfl⟩ := own_slice own2
  have m0 := (hb2.block _ (by simp only [World.size_alloc]; omega)).trans k0
  have d0 : w2.cell? ⟨w.heap.size, 0, none⟩ = some (.slice p l c) := by rw [cell_of_heap m0]; rfl
  have d1 : w2.cell? ⟨w.heap.size, 1, none⟩ = some (.string t) := by rw [cell_of_heap m0]; rfl
  have d2 : w2.cell? ⟨w.heap.size, 2, none⟩ = some (.int .i64 n) := by rw [cell_of_heap m0]; rfl
  have f0 : w2.frozen? ⟨w.heap.size, 0, none⟩ = false := frozen_of_heap m0 0
  have HQ : Hid (OwnA (w2.setCell ⟨w.heap.size, 0, none⟩ (.slice p' A.length c')) w.heap.size (.slice p' A.length c') A ∧ Below w.heap.size w (w2.setCell ⟨w.heap.size, 0, none⟩ (.slice p' A.length c'))) :=
    ⟨own_weaken (ownsRow_setCell_below own2 (a := ⟨w.heap.size, 0, none⟩) (by simp only [World.size_alloc]; omega) _) (by simp only [World.size_alloc]; omega), (b0.trans (hb2.mono b0.size)).setCell (Nat.le_refl _) _⟩
  clear cA b0 k0 own2 hb2 m0
  go_wp2
  go_ret
  exact ⟨p', c', rfl, HQ.out⟩
set_option maxHeartbeats 2000000 in
set_option maxRecDepth 100000 in
theorem own2_any (p : Option Addr) (l c : Nat) (t : ByteArray) (V : Value) (A : List A2) (w : World) (hR : RN w (.slice p l c) A) (hl : A.length ≤ 2097152) (hV : ∃ u x, V = .iface u x) :
    Calls Tryd.prog 24 #[.iface 60 (.agg #[.slice p l c, .string t, V])] w fun r w' => ∃ p' c', r = .returned (.iface 60 (.agg #[.slice p' A.length c', .string t, V])) ∧ OwnA w' w.heap.size (.slice p' A.length c') A ∧ Below w.heap.size w w' := by
  obtain ⟨u, x, rfl⟩ := hV
  have b0 : Below w.heap.size w (w.alloc (.cells #[.slice p l c, .string t, .iface u x] 60)) := (Below.refl _ _).alloc (Nat.le_refl _) _
  have k0 := heap_alloc_new w (.cells #[.slice p l c, .string t, .iface u x] 60)
  have cA := attributes_any (.slice p l c) A _ (hR.below b0).row hR.nz hl
  clear hR hl
  have a0 := as_e_i
  have a1 := as_e_e
  go_enter Tryd.func24, Tryd.ntmps24
  go_wp2_with fail
  refine cA.mono ?_; rintro r w2 ⟨v', rfl, own2, hb2⟩
  obtain ⟨p', c', rfl⟩ := own_slice own2
  have m0 := (hb2.block _ (by simp only [World.size_alloc]; omega)).trans k0
  have d0 : w2.cell? ⟨w.heap.size, 0, none⟩ = some (.slice p l c) := by rw [cell_of_heap m0]; rfl
  have d1 : w2.cell? ⟨w.heap.size, 1, none⟩ = some (.string t) := by rw [cell_of_heap m0]; rfl
  have d2 : w2.cell? ⟨w.heap.size, 2, none⟩ = some (.iface u x) := by rw [cell_of_heap m0]; rfl
  have f0 : w2.frozen? ⟨w.heap.size, 0, none⟩ = false := frozen_of_heap m0 0
  have HQ : Hid (OwnA (w2.setCell ⟨w.heap.size, 0, none⟩ (.slice p' A.length c')) w.heap.size (.slice p' A.length c') A ∧ Below w.heap.size w (w2.setCell ⟨w.heap.size, 0, none⟩ (.slice p' A.length c'))) :=
    ⟨own_weaken (ownsRow_setCell_below own2 (a := ⟨w.heap.size, 0, none⟩) (by simp only [World.size_alloc]; omega) _) (by simp only [World.size_alloc]; omega), (b0.trans (hb2.mono b0.size)).setCell (Nat.le_refl _) _⟩
  clear cA b0 k0 own2 hb2 m0
  go_wp2
  go_ret
  exact ⟨p', c', rfl, HQ.out⟩
set_option maxHeartbeats 2000000 in
set_option maxRecDepth 100000 in
theorem own3_any (p : Option Addr) (l c : Nat) (n : Int) (A : List A2) (w : World) (hR : RN w (.slice p l c) A) (hl : A.length ≤ 2097152) :
    Calls Tryd.prog 24 #[.iface 63 (.agg #[.slice p l c, .int .i64 n])] w fun r w' => ∃ p' c', r = .returned (.iface 63 (.agg #[.slice p' A.length c', .int .i64 n])) ∧ OwnA w' w.heap.size (.slice p' A.length c') A ∧ Below w.heap.size w w' := by
  have b0 : Below w.heap.size w (w.alloc (.cells #[.slice p l c, .int .i64 n] 63)) := (Below.refl _ _).alloc (Nat.le_refl _) _
  have k0 := heap_alloc_new w (.cells #[.slice p l c, .int .i64 n] 63)
  have cA := attributes_any (.slice p l c) A _ (hR.below b0).row hR.nz hl
  clear hR hl
  have a0 := as_r_i
  have a1 := as_r_e6
  have a2 := as_r_r
  go_enter Tryd.func24, Tryd.ntmps24
  go_wp2_with fail
  refine cA.mono ?_; rintro r w2 ⟨v', rfl, own2, hb2⟩
  obtain ⟨p', c', rfl⟩ := own_slice own2
  have m0 := (hb2.block _ (by simp only [World.size_alloc]; omega)).trans k0
  have d0 : w2.cell? ⟨w.heap.size, 0, none⟩ = some (.slice p l c) := by rw [cell_of_heap m0]; rfl
  have d1 : w2.cell? ⟨w.heap.size, 1, none⟩ = some (.int .i64 n) := by rw [cell_of_heap m0]; rfl
  have f0 : w2.frozen? ⟨w.heap.size, 0, none⟩ = false := frozen_of_heap m0 0
  have HQ : Hid (OwnA (w2.setCell ⟨w.heap.size, 0, none⟩ (.slice p' A.length c')) w.heap.size (.slice p' A.length c') A ∧ Below w.heap.size w (w2.setCell ⟨w.heap.size, 0, none⟩ (.slice p' A.length c'))) :=
    ⟨own_weaken (ownsRow_setCell_below own2 (a := ⟨w.heap.size, 0, none⟩) (by simp only [World.size_alloc]; omega) _) (by simp only [World.size_alloc]; omega), (b0.trans (hb2.mono b0.size)).setCell (Nat.le_refl _) _⟩
  clear cA b0 k0 own2 hb2 m0
  go_wp2
  go_ret
  exact ⟨p', c', rfl, HQ.out⟩
set_option maxHeartbeats 1000000 in
theorem own4_any (n : Int) (w : World) : Calls Tryd.prog 24 #[.iface 65 (.agg #[.int .i64 n])] w fun r w' => r = .returned (.iface 65 (.agg #[.int .i64 n])) ∧ Below w.heap.size w w' := by
  have a0 := as_d_i
  have a1 := as_d_e6
  have a2 := as_d_r
  go_enter Tryd.func24, Tryd.ntmps24
  go_wp2
  go_ret
  exact ⟨rfl, by go_grown⟩
theorem ownP_any (e : Op5) (s : Value) (w : World) (hg : opE e = 0) (hR : RN w s e.A) (hl : e.A.length ≤ 2097152) :
    Calls Tryd.prog 24 #[pieceQ e s] w fun r w' => ∃ s', r = .returned (pieceQ e s') ∧ OwnA w' w.heap.size s' e.A ∧ Below w.heap.size w w' := by
  obtain ⟨p, c, rfl, _⟩ := hR.row.val
  rcases kinds_of hg with h | h | h | h
  · rw [pieceQ_1 h]
    refine (own1_any p _ c e.t _ e.A w hR hl).mono ?_
    rintro r w' ⟨p', c', h1, h2, h3⟩
    exact ⟨.slice p' e.A.length c', by rw [h1, pieceQ_1 h], h2, h3⟩
  · rw [pieceQ_2 h]
    refine (own2_any p _ c e.t _ e.A w hR hl (valP_if _)).mono ?_
    rintro r w' ⟨p', c', h1, h2, h3⟩
    exact ⟨.slice p' e.A.length c', by rw [h1, pieceQ_2 h], h2, h3⟩
  · rw [pieceQ_3 h]
    refine (own3_any p _ c e.c e.A w hR hl).mono ?_
    rintro r w' ⟨p', c', h1, h2, h3⟩
    exact ⟨.slice p' e.A.length c', by rw [h1, pieceQ_3 h], h2, h3⟩
  · rw [pieceQ_4 h]
    refine (own4_any e.c w).mono ?_
    rintro r w' ⟨h1, h3⟩
    exact ⟨.slice none 0 0, by rw [h1, pieceQ_4 h], by rw [drop_A hg h]; exact World.ownsRow_nil _ _ _ _, h3⟩
set_option maxHeartbeats 4000000 in
set_option maxRecDepth 100000 in
theorem pieces_any {B1 B2 : Nat} (v : Value) (E : List Op5) (w : World) (h : DelV w B1 B2 v E) (hg : ∀ o ∈ E, opE o = 0) (hA : ∀ o ∈ E, o.A.length ≤ 2097152) (hl : E.length ≤ 4194304) :
    Calls Tryd.prog 12 #[v] w fun e w' => ∃ v', e = .returned v' ∧ (∃ P, OwnI w' w.heap.size v' P ∧ PieD w' w.heap.size P E) ∧ Below w.heap.size w w' := by
  obtain ⟨q, pv, PL, rfl, _, hq, hrow, hpie⟩ := h
  have c0 : w.cell? ⟨q, 0, none⟩ = some pv := by rw [cell_of_heap hq]; rfl
  obtain ⟨p, cap, rfl, hrd⟩ := del_read (q := q) hrow hpie
  have HV : Hid (∀ k, k < E.length → ∃ ga e s, p = some ⟨ga, 0, none⟩ ∧ E[k]? = some e ∧ w.cell? ⟨ga, k, none⟩ = some (pieceQ e s) ∧ OwnA w B2 s e.A) := hrd
  have HG : Hid (∀ o ∈ E, opE o = 0 ∧ o.A.length ≤ 2097152) := fun o ho => ⟨hg o ho, hA o ho⟩
  obtain ⟨n, hn⟩ : ∃ n, E.length = n := ⟨_, rfl⟩
  have HN : Hid (E.length = n) := hn
  rw [hn] at c0 hl HV
  clear hq hrow hpie hrd hg hA hn
  go_enter Tryd.func12, Tryd.ntmps12
  go_wp2_with (at_make; refine wpList_make_pi2 _ rfl _ _ rfl w.heap.size .i64 .i64 _ n rfl rfl rfl (by omega) (Nat.le_refl _) ?_; intro v0 w1 hown hgr; have hb1 : Below w.heap.size w w1 := (Below.refl _ _).grown hgr (Nat.le_refl _) (fun k hk => by cases hk); have c1 := (hb1.cell (lt_of_cell c0)).trans c0; clear hgr)
  go_loopw [3, 17] (fun al i wr => ∃ (k : Nat) (D : List Value), k ≤ n ∧ i = .int .i64 k ∧ D.length = k ∧ OwnI wr w.heap.size al D ∧ PieD wr w.heap.size D (E.take k) ∧ Below w.heap.size w wr) (fun _ i _ => n - (RowKit.intOf i).toNat)
  case atStart => exact ⟨0, [], Nat.zero_le _, rfl, rfl, hown, .nil, hb1⟩
  case round =>
    clear hown hb1 c1
    obtain ⟨k, D, hk, rfl, hDl, hown, hsp, hbw⟩ := hrel
    by_cases hlt : k < n
    · have hltI : (k : Int) < n := by omega
      obtain ⟨ga, e, s, rfl, he, hc, hs⟩ := HV.out k hlt
      have c2 := (hbw.cell (lt_of_cell hc)).trans hc
      have hs2 := owns_below hs hbw
      obtain ⟨hg1, hA1⟩ := HG.out e (List.mem_of_getElem? he)
      have HT : Hid (E.take (k + 1) = E.take k ++ [e]) := by show _ = _; rw [List.take_add_one, he]; rfl
      have hge : Hid (∀ j, u3.ownBlock = some j → w.heap.size ≤ j) := fun j hj => (owns_block hown j hj).1
      have HO : Hid (OwnI wr w.heap.size u3 D ∧ PieD wr w.heap.size D (E.take k)) := ⟨hown, hsp⟩
      have hlen : D.length ≤ 8388608 := by omega
      have hlz : w.heap.size ≤ wr.heap.size := hbw.size
      have cO := ownP_any e s wr hg1 (own_RN hs2) hA1
      obtain ⟨u, x, hux⟩ := pieceQ_if e s
      have hq := fun s' => pieceQ_if e s'
      obtain ⟨PQ, hPQ⟩ : ∃ f : Value → Value, pieceQ e = f := ⟨_, rfl⟩
      have HPQ : Hid (pieceQ e = PQ) := hPQ
      rw [hPQ] at cO hux hq
      rw [hPQ] at c2
      rw [hux] at c2 cO
      clear he hc hs hs2 hown hsp hg1 hA1 hux hPQ
      go_wp2_with fail
      refine cO.mono ?_; rintro r w5 ⟨s', rfl, own5, hb5⟩
      obtain ⟨u', x', hux'⟩ := hq s'
      have HU : Hid (PQ s' = .iface u' x') := hux'
      rw [hux']
      have bw5 : Below w.heap.size w w5 := hbw.trans (hb5.mono hlz)
      have ba : Below w5.heap.size w5 (w5.alloc (.cells #[.iface u' x'] 43)) := (Below.refl _ _).alloc (Nat.le_refl _) _
      have hu6 : (w5.alloc (.cells #[.iface u' x'] 43)).cell? ⟨w5.heap.size, 0, none⟩ = some (.iface u' x') := by simp
      have HO7 : Hid (OwnI (w5.alloc (.cells #[.iface u' x'] 43)) w.heap.size u3 D) := owns_below (owns_below HO.out.1 hb5) ba
      have HP7 : Hid (PieD (w5.alloc (.cells #[.iface u' x'] 43)) w.heap.size (D ++ [.iface u' x']) (E.take (k + 1))) := by
        show PieD _ _ _ _
        rw [HT.out]
        exact forall2_append ((HO.out.2.below hb5).below ba) (.cons ⟨s', by rw [HPQ.out, HU.out], own_weaken (owns_below own5 ba) hlz⟩ .nil)
      have bw7 := bw5.trans (ba.mono bw5.size)
      clear own5 hb5 bw5 ba HO HT cO c2 hux' hq
      go_wp2_with (at_builtin; refine wpList_append_piAt rfl (.tmp 21) (.tmp 24) rfl w.heap.size u3 D rfl HO7.out w5.heap.size 1 (.iface u' x') rfl hu6 rfl hlen bw7.size ?_; intro v8 w8 own8 gr8 hat8; have hsp8 : Hid (PieD w8 w.heap.size _ _) := HP7.out.keep (keepA_grownI HO7.out gr8); have b8 := bw7.grown gr8 bw7.size (fun j hj => hge.out j hj); have HO8 : Hid (OwnI w8 w.heap.size v8 _) := own8; clear own8 gr8 hat8 HO7 HP7 hu6)
      go_roundw
      case rel => exact ⟨k + 1, _, by omega, by go_num, by simp [hDl], HO8.out, hsp8.out, b8⟩
      case measure => simp [RowKit.intOf]; omega
    · have hltI : ¬ (k : Int) < n := by omega
      have hE : E.take k = E := List.take_of_length_le (by rw [HN.out]; omega)
      rw [hE] at hsp
      have HX : Hid (∃ P, OwnI wr w.heap.size u3 P ∧ PieD wr w.heap.size P E) := ⟨D, hown, hsp⟩
      clear hown hsp
      go_wp2
      go_ret
      exact ⟨_, rfl, HX.out, hbw⟩
end Go.Proofs.YtfllomfjhkgaoaaDoor

/- What vellumref03.Has answers: the first pair of a key. -/
namespace Go.Proofs.YtfllomfjhkgaoaaDoor
open Go Go.RowKit Go.Lib
set_option linter.unusedVariables false
end Go.Proofs.YtfllomfjhkgaoaaDoor

/- What vellumref03.whole, Over and Between answer. -/
namespace Go.Proofs.YtfllomfjhkgaoaaDoor
open Go Go.RowKit Go.Lib
set_option linter.unusedVariables false

def wholeL (L : List A2) : List A2 := L.filter fun q => !(q.2.1 == 0)
def overL (A : List A2) (first : Bool) (B : List A2) : List A2 := B.filter fun q => !first || !(look q.1 A).isSome
def betL (A B : List A2) (J : List A2) : List A2 := J.filterMap fun x => if (look x.1 A).getD z0 = (look x.1 B).getD z0 then none else some (x.1, (look x.1 B).getD z0)
theorem filter_step {p : A2 → Bool} {L : List A2} {k : Nat} {q : A2} (hq : L[k]? = some q) : (L.take (k + 1)).filter p = (L.take k).filter p ++ (if p q then [q] else []) := by
  rw [List.take_add_one, hq, List.filter_append]
  simp only [Option.toList, List.filter_cons, List.filter_nil]
theorem filterMap_step {p : A2 → Option A2} {L : List A2} {k : Nat} {q : A2} (hq : L[k]? = some q) : (L.take (k + 1)).filterMap p = (L.take k).filterMap p ++ (p q).toList := by
  rw [List.take_add_one, hq, List.filterMap_append]
  congr 1

end Go.Proofs.YtfllomfjhkgaoaaDoor

/- What vellumref03.Join answers of two patches: the one over the other. -/
namespace Go.Proofs.YtfllomfjhkgaoaaDoor
open Go Go.RowKit Go.Lib
set_option linter.unusedVariables false

theorem jt_b {x y : A2} {A B : List A2} (h : kc y.1 x.1 < 0) : jn (chC true) (x :: A) (y :: B) = y :: jn (chC true) (x :: A) B := by
  have hs := kc_swap x.1 y.1
  show joinL _ (x :: A) (y :: B) = _
  rw [joinL, if_neg (by omega), if_neg (by omega)]; rfl
theorem jt_a {x y : A2} {A B : List A2} (h : kc x.1 y.1 < 0) : jn (chC true) (x :: A) (y :: B) = x :: jn (chC true) A (y :: B) := by
  show joinL _ (x :: A) (y :: B) = _
  rw [joinL, if_pos h]; rfl
theorem jt_a0 {x : A2} {A : List A2} : jn (chC true) (x :: A) [] = x :: jn (chC true) A [] := by
  show joinL _ (x :: A) [] = _
  rw [joinL]; rfl
theorem jt_eq {x y : A2} {A B : List A2} (e : y.1 = x.1) (hA : Up (x :: A)) : jn (chC true) (x :: A) (y :: B) = jn (chC true) A (y :: B) := by
  have h0 : kc x.1 y.1 = 0 := by rw [e]; exact kc_self _
  show joinL _ (x :: A) (y :: B) = _
  rw [joinL, if_neg (by omega), if_pos h0]
  cases A with
  | nil =>
    show _ = joinL _ [] (y :: B)
    rw [joinL, e]; rfl
  | cons z A =>
    have hz : kc x.1 z.1 < 0 := List.rel_of_pairwise_cons hA (List.mem_cons_self ..)
    have hzy : kc y.1 z.1 < 0 := by rw [e]; exact hz
    have hs := kc_swap z.1 y.1
    show _ = joinL _ (z :: A) (y :: B)
    rw [joinL, if_neg (by omega), if_neg (by omega), e]; rfl
theorem drop_cons {L : List A2} {k n : Nat} {q : A2} (hn : L.length = n) (hk : k < n) (hq : L[k]? = some q) : L.drop k = q :: L.drop (k + 1) := by
  rw [List.drop_eq_getElem_cons (by omega)]
  rw [List.getElem?_eq_getElem (by omega)] at hq
  rw [Option.some.inj hq]

end Go.Proofs.YtfllomfjhkgaoaaDoor

/- The document's answers of the attrs' calls as joins. -/
namespace Go.Proofs.YtfllomfjhkgaoaaDoor
open Go Go.RowKit Go.Lib
set_option linter.unusedVariables false

def fm (g : A2 → Option P3) (L : List A2) : List A2 := L.filterMap fun x => (g x).map fun v => (x.1, v)
theorem fm_mem {g : A2 → Option P3} {L : List A2} {q : A2} (h : q ∈ fm g L) : ∃ x ∈ L, x.1 = q.1 ∧ g x = some q.2 := by
  obtain ⟨x, hx, e⟩ := List.mem_filterMap.1 h
  obtain ⟨v, hv, rfl⟩ := Option.map_eq_some_iff.1 e
  exact ⟨x, hx, rfl, hv⟩
theorem up_fm {g : A2 → Option P3} {L : List A2} (h : Up L) : Up (fm g L) := by
  unfold fm
  refine List.Pairwise.filterMap _ (R := fun x y : A2 => kc x.1 y.1 < 0) (S := fun x y : A2 => kc x.1 y.1 < 0) (fun a a' hr b hb b' hb' => ?_) h
  obtain ⟨v, hv, rfl⟩ := Option.map_eq_some_iff.1 hb
  obtain ⟨v', hv', rfl⟩ := Option.map_eq_some_iff.1 hb'
  exact hr
theorem look_fm {g : A2 → Option P3} (k : ByteArray) : ∀ {L : List A2}, Up L → look k (fm g L) = (look k L).bind fun v => g (k, v)
  | [], _ => rfl
  | (j, u) :: L, h => by
    have ih := look_fm (g := g) k (L := L) (List.Pairwise.of_cons h)
    have hc : fm g ((j, u) :: L) = ((g (j, u)).map fun v => (j, v)).toList ++ fm g L := by
      unfold fm
      rw [List.filterMap_cons]
      cases g (j, u) <;> rfl
    rw [hc, look]
    by_cases e : j = k
    · subst e
      rw [if_pos rfl]
      have h0 : look j L = none := look_above fun q hq => List.rel_of_pairwise_cons h hq
      rw [h0] at ih
      cases e2 : g (j, u) with
      | none => simp only [Option.map_none, Option.toList_none, List.nil_append, ih]; exact e2.symm
      | some v => show look j ((j, v) :: fm g L) = _; rw [look, if_pos rfl]; exact e2.symm
    · rw [if_neg (show ¬ (j, u).1 = k from e), ← ih]
      cases e2 : g (j, u) with
      | none => rfl
      | some v => show look k ((j, v) :: fm g L) = _; rw [look, if_neg (show ¬ (j, v).1 = k from e)]
theorem filter_fm (p : A2 → Bool) (L : List A2) : L.filter p = fm (fun q => if p q then some q.2 else none) L := by
  unfold fm
  induction L with
  | nil => rfl
  | cons q L ih =>
    rw [List.filter_cons, List.filterMap_cons, ih]
    by_cases h : p q = true <;> simp [h]
theorem whole_eq {a b : List A2} (ha : Up a) (hb : Up b) : wholeL (jn (chC true) a b) = jn (chC false) a b := by
  unfold wholeL
  rw [filter_fm]
  refine up_ext (up_fm (up_join _ ha hb)) (up_join _ ha hb) fun k => ?_
  rw [look_fm k (up_join _ ha hb), look_join _ ha hb, look_join _ ha hb]
  cases look k a <;> cases look k b <;> simp [at2, fOf, chC]
theorem over_eq {a b : List A2} (first : Bool) (ha : Up a) (hb : Up b) : overL a first b = jn (chT first) a b := by
  unfold overL
  rw [filter_fm]
  refine up_ext (up_fm hb) (up_join _ ha hb) fun k => ?_
  rw [look_fm k hb, look_join _ ha hb]
  cases first <;> cases e : look k a <;> cases look k b <;> simp [at2, fOf, chT, e]
theorem bet_eq {a b : List A2} (ha : Up a) (hb : Up b) : betL a b (jn (chC true) a b) = jn chD a b := by
  have e : ∀ J, betL a b J = fm (fun x => if (look x.1 a).getD z0 = (look x.1 b).getD z0 then none else some ((look x.1 b).getD z0)) J := fun J => by
    unfold betL fm
    congr 1
    funext x
    by_cases h : (look x.1 a).getD z0 = (look x.1 b).getD z0 <;> simp [h]
  rw [e]
  refine up_ext (up_fm (up_join _ ha hb)) (up_join _ ha hb) fun k => ?_
  rw [look_fm k (up_join _ ha hb), look_join _ ha hb, look_join _ ha hb]
  have hs : ∀ p q : P3, samP p q = decide (p = q) := fun p q => by
    by_cases h : p = q
    · rw [h, samP_self]; simp
    · rw [samP_ne h]; simp [h]
  cases ea : look k a <;> cases eb : look k b <;> simp [at2, fOf, chC, chD, hs, ea, eb]
theorem und_eq {s p : List A2} (hs : Up s) (hp : Up p) (ns : NoNull s) (pn : ∀ q ∈ p, q.2.1 = 0 → q.2 = z0) : jn chD (jn (chC false) s p) s = jn chI p s := by
  refine up_ext (up_join _ (up_join _ hs hp) hs) (up_join _ hp hs) fun k => ?_
  rw [look_join _ (up_join _ hs hp) hs, look_join _ hs hp, look_join _ hp hs]
  cases es : look k s with
  | none =>
    cases ep : look k p with
    | none => simp [at2]
    | some v =>
      by_cases h1 : v.1 = 0
      · have hv : v = z0 := pn (k, v) (look_mem ep) h1
        subst hv
        simp [at2, fOf, chC, chI, samP_self]; simp [z0]
      · simp [at2, fOf, chC, chI, chD, h1]
  | some u =>
    have hu := nn_look ns es
    cases ep : look k p with
    | none => simp [at2, fOf, chC, chI, chD, hu, samP_self]
    | some v =>
      by_cases h1 : v.1 = 0
      · have hv : v = z0 := pn (k, v) (look_mem ep) h1
        subst hv
        simp [at2, fOf, chC, chI, chD, h1]
      · simp [at2, fOf, chC, chI, chD, h1]
end Go.Proofs.YtfllomfjhkgaoaaDoor

/- What vellumref03.Between answers. -/
namespace Go.Proofs.YtfllomfjhkgaoaaDoor
open Go Go.RowKit Go.Lib
set_option linter.unusedVariables false

/-- Between two marks the memory stands. -/
structure Mid (c : Nat) (u w : World) : Prop where
  size : u.heap.size ≤ w.heap.size
  cell : ∀ g i, c < g → g < u.heap.size → w.cell? ⟨g, i, none⟩ = u.cell? ⟨g, i, none⟩
theorem Mid.refl (c : Nat) (u : World) : Mid c u u := ⟨Nat.le_refl _, fun _ _ _ _ => rfl⟩
theorem Mid.below {c : Nat} {u w w' : World} (h : Mid c u w) (b : Below w.heap.size w w') : Mid c u w' :=
  ⟨Nat.le_trans h.size b.size, fun g i h1 h2 => (b.cell (Nat.lt_of_lt_of_le h2 h.size)).trans (h.cell g i h1 h2)⟩
theorem Mid.alloc {c : Nat} {u w : World} (h : Mid c u w) (o : Obj) : Mid c u (w.alloc o) := h.below ((Below.refl _ _).alloc (Nat.le_refl _) o)
theorem Mid.grown {c : Nat} {u w w' : World} {row : Option Nat} (h : Mid c u w) (g : w.grownBy w' row) (hr : ∀ r, row = some r → r = c ∨ u.heap.size ≤ r) : Mid c u w' :=
  ⟨Nat.le_trans h.size g.size, fun k i h1 h2 => (World.cell?_of_block (a := ⟨k, i, none⟩) (g.block k (Nat.lt_of_lt_of_le h2 h.size) (fun e => by have := hr k e.symm; omega))).trans (h.cell k i h1 h2)⟩
theorem PairAt.mid {c : Nat} {u w : World} {b o : Nat} {q : A2} (h : PairAt u b o q) (m : Mid c u w) (hb : c < b) : PairAt w b o q :=
  ⟨(m.cell _ _ hb h.lt).trans h.c0, (m.cell _ _ hb h.lt).trans h.c1, (m.cell _ _ hb h.lt).trans h.c2, (m.cell _ _ hb h.lt).trans h.c3⟩

end Go.Proofs.YtfllomfjhkgaoaaDoor

/- What vellumref03.Compose, Apply, Diff, Invert and Transform answer. -/
namespace Go.Proofs.YtfllomfjhkgaoaaDoor
open Go Go.RowKit Go.Lib
set_option linter.unusedVariables false

/-- A nil slice is empty and has no room. -/
abbrev NilZ (v : Value) : Prop := ∀ m c, v = .slice none m c → m = 0 ∧ c = 0
theorem wholeL_len (L : List A2) : (wholeL L).length ≤ L.length := List.length_filter_le _ _

end Go.Proofs.YtfllomfjhkgaoaaDoor

/- vellumhand.Attrs and Kept. -/
namespace Go.Proofs.YtfllomfjhkgaoaaDoor
open Go Go.RowKit Go.Lib
set_option linter.unusedVariables false

abbrev s2 : A2 := (⟨#[114, 111, 111, 109]⟩, 0, 0, ⟨#[]⟩)
/-- A copy with two more behind its end. -/
def HandA (w : World) (v : Value) (A : List A2) : Prop :=
  NilZ v ∧ RowA w v A ∧ (A ≠ [] → ∃ p c, v = .slice p A.length c ∧ A.length + 2 ≤ c ∧ RowA w (.slice p (A.length + 2) c) (A ++ [s1, s2]))
theorem HandA.below {w w' : World} {v : Value} {A : List A2} (h : HandA w v A) (b : Below w.heap.size w w') : HandA w' v A :=
  ⟨h.1, h.2.1.below b, fun hA => by obtain ⟨p, c, h1, h2, h3⟩ := h.2.2 hA; exact ⟨p, c, h1, h2, h3.below b⟩⟩
end Go.Proofs.YtfllomfjhkgaoaaDoor

/- vellumhand.OverAttrs: a list of the call's own is written over and grown: what that changes. -/
namespace Go.Proofs.YtfllomfjhkgaoaaDoor
open Go Go.RowKit Go.Lib
set_option linter.unusedVariables false

theorem cell_atv {w : World} {g : Nat} {cur : Array Value} {e : TypeId} (h : w.heap[g]? = some (.cells cur e (0, 0))) (j : Nat) (hj : j < cur.size) : ∃ u, w.cell? ⟨g, j, none⟩ = some u :=
  ⟨cur[j], by simp [World.cell?, h, hj]⟩
theorem out_set4v {lo hi : Nat} {w W : World} (h : Out lo hi w W) {g : Nat} (h1 : lo ≤ g) (h2 : g < hi) (a b c d : Nat) (u0 u1 u2 u3 : Value) :
    Out lo hi w ((((W.setCell ⟨g, a, none⟩ u0).setCell ⟨g, b, none⟩ u1).setCell ⟨g, c, none⟩ u2).setCell ⟨g, d, none⟩ u3) :=
  (((h.setCell g a u0 h1 h2).setCell g b u1 h1 h2).setCell g c u2 h1 h2).setCell g d u3 h1 h2
theorem out_setCellsv {lo hi : Nat} {w : World} {g : Nat} (h1 : lo ≤ g) (h2 : g < hi) : ∀ (vs : List Value) (o : Nat) (W : World), Out lo hi w W → Out lo hi w (W.setCells g o vs)
  | [], _, _, h => h
  | v :: r, o, W, h => by
    rw [World.setCells]
    exact out_setCellsv h1 h2 r (o + 1) _ (h.setCell g o v h1 h2)
/-- A store into a block that came later. -/
theorem Out.setFar {lo hi : Nat} {w w' : World} (h : Out lo hi w w') (g j : Nat) (u : Value) (h1 : w.heap.size ≤ g) : Out lo hi w (w'.setCell ⟨g, j, none⟩ u) :=
  ⟨h.os, h.tape, h.output, by simpa using h.size, fun k hk ho => (Below.heap_setCell _ _ _ _ (by show k ≠ g; omega)).trans (h.block k hk ho), fun k cur e fz hc hk => by
    obtain ⟨c, h3, h4⟩ := h.shape k cur e fz hc hk
    have hkg : k ≠ g := by have := (Array.getElem?_eq_some_iff.1 hc).1; omega
    exact ⟨c, (Below.heap_setCell _ _ _ _ hkg).trans h3, h4⟩⟩
theorem out_setCellsFar {lo hi : Nat} {w : World} {g : Nat} (h1 : w.heap.size ≤ g) : ∀ (vs : List Value) (o : Nat) (W : World), Out lo hi w W → Out lo hi w (W.setCells g o vs)
  | [], _, _, h => h
  | v :: r, o, W, h => by
    rw [World.setCells]
    exact out_setCellsFar h1 r (o + 1) _ (h.setFar g o v h1)
theorem out_grownv {lo hi : Nat} {u w w' : World} (h : Out lo hi u w) (g : w.grownBy w' none) : Out lo hi u w' :=
  h.trans ⟨g.os, g.tape, g.output, g.size, fun k hk _ => g.block k hk (by simp), fun k cur e fz hc _ => ⟨cur, (g.block k (Array.getElem?_eq_some_iff.1 hc).1 (by simp)).trans hc, rfl⟩⟩

/-- A list that may be written, in blocks between two marks or in new ones: its shape alone. -/
def LiR (w : World) (L H B : Nat) (v : Value) (n : Nat) : Prop :=
  (v = .slice none 0 0 ∧ n = 0) ∨ ∃ (g cap : Nat) (cur : Array Value), v = .slice (some ⟨g, 0, none⟩) n cap ∧ ((L ≤ g ∧ g < H) ∨ B ≤ g) ∧ w.heap[g]? = some (.cells cur 80 (0, 0)) ∧ n ≤ cap ∧ cur.size = cap * 4
theorem LiR.val {w : World} {L H B n : Nat} {v : Value} (h : LiR w L H B v n) : ∃ p c, v = .slice p n c := by
  rcases h with ⟨h, h0⟩ | ⟨g, cap, cur, h, _⟩
  · exact ⟨none, 0, by rw [h, h0]⟩
  · exact ⟨_, _, h⟩
theorem LiR.below {w w' : World} {L H B n : Nat} {v : Value} (h : LiR w L H B v n) (b : Below w.heap.size w w') : LiR w' L H B v n := by
  rcases h with h | ⟨g, cap, cur, h1, h2, h3, h4⟩
  · exact Or.inl h
  · exact Or.inr ⟨g, cap, cur, h1, h2, (b.block g (Array.getElem?_eq_some_iff.1 h3).1).trans h3, h4⟩
/-- append(such a list, one pair). -/
theorem wpList_append_res {w u : World} {ops : Array Oper} {rest : List Oper} {o : Oper} {a : Act} {Q : Exit → Act → World → Prop} (hgd : o.guard = none) (s x : Operand)
    (ho : o.op = .call { callee := .builtin .append, args := #[s, x], argTypes := #[31, 31] })
    (L H : Nat) (v : Value) (n : Nat) (hs : a.eval s = v) (hv : LiR w L H u.heap.size v n) (hu : Out L H u w)
    (b c : Nat) (q : A2) (hx : a.eval x = .slice (some ⟨b, 0, none⟩) 1 c) (hM : PairAt w b 0 q) (h63 : n ≤ 2097152)
    (h : ∀ v' w', LiR w' L H u.heap.size v' (n + 1) → Out L H u w' → wpList Tryd.prog ops Q rest (a.put o.dst v') w') : wpList Tryd.prog ops Q (o :: rest) a w := by
  obtain ⟨i, z, hi, hz, hz1, hz2, hz3⟩ := infoAt
  have hnew : ∀ (j : Nat) (u : Value), (cellsA [q])[j]? = some u → w.cell? ((⟨b, 0, none⟩ : Addr).add j) = some u := fun j u hu => by
    obtain ⟨k, q', hq, hh⟩ := cellsA_inv [q] j u hu
    have hk : k = 0 := by rcases k with _ | k; rfl; simp at hq
    subst hk
    obtain rfl : q = q' := by simpa using hq
    obtain ⟨h0, h1, h2, h3⟩ := hM
    rw [Addr.add_lit]
    rcases hh with ⟨rfl, rfl⟩ | ⟨rfl, rfl⟩ | ⟨rfl, rfl⟩ | ⟨rfl, rfl⟩
    · exact h0
    · exact h1
    · exact h2
    · exact h3
  have fin : ∀ (v' : Value) (w' : World) (xs : List Value), w'.ownsRow w.heap.size 80 4 v' (n + 1) xs → Out L H u w' → wpList Tryd.prog ops Q rest (a.put o.dst v') w' := fun v' w' xs hw ho' => by
    refine h _ _ ?_ ho'
    rcases hw.2 with ⟨_, h0⟩ | ⟨g, cap, cur, h1, h2, h3, h4, h5, h6, _⟩
    · omega
    · exact Or.inr ⟨g, cap, cur, h1, Or.inr (Nat.le_trans hu.size h2), h3, h4, h6⟩
  rcases hv with ⟨rfl, rfl⟩ | ⟨g, cap, cur, rfl, h2, h4, h5, h6⟩
  · exact wpList_append_grows w hgd s x _ ho 80 i z 4 48 Tryd.underlying31 hi hz hz1 hz2 hz3 (by decide) none 0 0 [] hs (fun _ => ⟨rfl, rfl⟩) rfl (fun b hb => (by cases hb)) ⟨b, 0, none⟩ 1 c (cellsA [q]) hx rfl hnew (cellsA_one _) (by decide) (by unfold maxLen; omega) (by omega) (fun v' w' r1 r2 => fin v' w' _ r1 (out_grownv hu r2))
  · refine wpList_append_arg w hgd s x _ ho 80 i z 4 48 Tryd.underlying31 hi hz hz1 hz2 hz3 (by decide) g 0 n cap (cur.toList.take (n * 4)) hs (by rw [List.length_take, Array.length_toList, h6]; omega) (fun j u hu => ?_) ⟨b, 0, none⟩ 1 c (cellsA [q]) hx rfl hnew (cellsA_one _) (fun hr j hj => ?_) (by unfold maxLen; omega) (by omega) (fun hr => ?_) (fun hr v' w' r1 r2 => fin v' w' _ r1 (out_grownv hu r2))
    · have hj := (List.getElem?_eq_some_iff.1 hu).1
      rw [List.getElem?_take] at hu
      split at hu
      · rw [Nat.zero_add]
        simp only [World.cell?, h4]
        simpa using hu
      · cases hu
    · have hj' : j < 4 := by simpa [cellsA] using hj
      rw [Nat.zero_add]
      exact ⟨by obtain ⟨u, hu⟩ := cell_atv h4 (n * 4 + j) (by omega); rw [hu]; rfl, frozen_of_row w g _ cur _ h4⟩
    · obtain ⟨cur', hc', hs'⟩ := (out_setCellsv (Nat.le_refl g) (Nat.lt_succ_self g) (cellsA [q]) (0 + n * 4) w (Out.refl g (g + 1) w)).shape g cur _ _ h4 (Nat.lt_succ_self g)
      refine h _ _ (Or.inr ⟨g, cap, cur', rfl, h2, hc', hr, by rw [hs', h6]⟩) ?_
      rcases h2 with ⟨h2, h3⟩ | h2
      · exact out_setCellsv h2 h3 _ _ _ hu
      · exact out_setCellsFar h2 _ _ _ hu

abbrev qOver (i : Int) : A2 := (⟨#[111, 118, 101, 114]⟩, 2, i, ⟨#[]⟩)
abbrev qMore : A2 := (⟨#[109, 111, 114, 101]⟩, 0, 0, ⟨#[]⟩)

set_option maxHeartbeats 2000000 in
set_option maxRecDepth 100000 in
theorem overAttrs_any (v : Value) (n L H : Nat) (w : World) (hv : LiR w L H w.heap.size v n) (hl : n ≤ 1048576) :
    Calls Tryd.prog 17 #[v] w fun r w' => r = .returned (.tuple #[]) ∧ Out L H w w' := by
  obtain ⟨p, cap, rfl⟩ := hv.val
  have HV : Hid (∀ W, Out L H w W → LiR W L H w.heap.size (.slice p n cap) n) := fun W hW => by
    rcases hv with h | ⟨g, cap', cur, h1, h2, h3, h4, h5⟩
    · exact Or.inl h
    · have hg : g < w.heap.size := (Array.getElem?_eq_some_iff.1 h3).1
      obtain ⟨cur', h6, h7⟩ := hW.shape g cur _ _ h3 (by omega)
      exact Or.inr ⟨g, cap', cur', h1, h2, h6, h4, by rw [h7, h5]⟩
  have HP : Hid (0 < n → ∃ g, p = some ⟨g, 0, none⟩ ∧ L ≤ g ∧ g < H ∧ ∀ W, Out L H w W → ∀ i, i < n * 4 → (∃ u, W.cell? ⟨g, i, none⟩ = some u) ∧ W.frozen? ⟨g, i, none⟩ = false) := fun h0 => by
    rcases hv with ⟨_, h⟩ | ⟨g, cap', cur, h1, h2, h3, h4, h5⟩
    · omega
    · have hg : g < w.heap.size := (Array.getElem?_eq_some_iff.1 h3).1
      simp only [Value.slice.injEq] at h1
      obtain ⟨rfl, -, rfl⟩ := h1
      refine ⟨g, rfl, by omega, by omega, fun W hW i hi => ?_⟩
      obtain ⟨cur', h6, h7⟩ := hW.shape g cur _ _ h3 (by omega)
      exact ⟨cell_atv h6 i (by rw [h7, h5]; omega), frozen_of_row W g i cur' _ h6⟩
  clear hv
  go_enter Tryd.func17, Tryd.ntmps17
  go_wp2
  go_loopw [2, 7] (fun _ i wr => ∃ (k : Nat), k ≤ n ∧ i = .int .i64 k ∧ Out L H w wr) (fun _ i _ => n - (RowKit.intOf i).toNat)
  case atStart => exact ⟨0, Nat.zero_le _, rfl, Out.refl _ _ _⟩
  case round =>
    obtain ⟨k, hk, rfl, ho⟩ := hrel
    by_cases hlt : k < n
    · have hltI : (k : Int) < n := by omega
      obtain ⟨g, rfl, hg1, hg2, hgc⟩ := HP.out (by omega)
      obtain ⟨⟨u0, e0⟩, f0⟩ := hgc _ ho (k * 4) (by omega)
      obtain ⟨⟨u1, e1⟩, f1⟩ := hgc _ ho (k * 4 + 1) (by omega)
      obtain ⟨⟨u2', e2⟩, f2⟩ := hgc _ ho (k * 4 + 2) (by omega)
      obtain ⟨⟨u3', e3⟩, f3⟩ := hgc _ ho (k * 4 + 3) (by omega)
      have HOO : Hid (Out L H w wr ∧ L ≤ g ∧ g < H) := ⟨ho, hg1, hg2⟩
      clear hgc ho hg1 hg2
      go_wp2_with fail
      go_roundw
      case rel => exact ⟨k + 1, by omega, by go_num, out_set4v HOO.out.1 HOO.out.2.1 HOO.out.2.2 _ _ _ _ _ _ _ _⟩
      case measure => simp [RowKit.intOf]; omega
    · have hltI : ¬ (k : Int) < n := by omega
      have hli := HV.out _ ho
      have HOO : Hid (Out L H w wr) := ho
      clear HP ho
      go_wp2_with fail
      have HL : Hid (LiR wr L H w.heap.size (.slice p n cap) n) := hli
      clear hli
      go_loopw [3, 4] (fun s i wr => ∃ (k : Nat), k ≤ 20 ∧ i = .int .i64 k ∧ Hid (Out L H w wr ∧ LiR wr L H w.heap.size s (n + k))) (fun _ i _ => 20 - (RowKit.intOf i).toNat)
      case atStart => exact ⟨0, Nat.zero_le _, rfl, HOO.out, HL.out⟩
      case round =>
        clear HOO HL
        obtain ⟨k, hk, rfl, HR⟩ := hrel
        obtain ⟨p', c', rfl⟩ := HR.out.2.val
        by_cases hlt : k < 20
        · have hltJ : (k : Int) < 20 := by omega
          have bA := (Below.refl wr.heap.size wr).alloc (Nat.le_refl _) (.cells #[.string ⟨#[109, 111, 114, 101]⟩, .int .i64 0, .int .i64 0, .string ⟨#[]⟩] 80)
          have HA : Hid (Out L H w (wr.alloc (.cells #[.string ⟨#[109, 111, 114, 101]⟩, .int .i64 0, .int .i64 0, .string ⟨#[]⟩] 80)) ∧ LiR (wr.alloc (.cells #[.string ⟨#[109, 111, 114, 101]⟩, .int .i64 0, .int .i64 0, .string ⟨#[]⟩] 80)) L H w.heap.size (.slice p' (n + k) c') (n + k)) :=
            ⟨HR.out.1.trans (Out.of_below bA), HR.out.2.below bA⟩
          have hb : n + k ≤ 2097152 := by omega
          clear HR bA
          go_wp2_with (at_builtin; refine wpList_append_res (u := w) rfl (.tmp 22) (.tmp 24) rfl L H (.slice p' (n + k) c') (n + k) rfl HA.out.2 HA.out.1 wr.heap.size 1 qMore rfl ⟨by simp, by simp, by simp, by simp⟩ hb ?_; intro v' w6 hl6 ho6; have HN : Hid (Out L H w w6 ∧ LiR w6 L H w.heap.size v' (n + (k + 1))) := ⟨ho6, hl6⟩; clear hl6 ho6 HA)
          go_roundw
          case rel => exact ⟨k + 1, by omega, by go_num, HN.out⟩
          case measure => simp [RowKit.intOf]; omega
        · have hltJ : ¬ (k : Int) < 20 := by omega
          go_wp2
          (try simp only [Exit.inBlock, Exit.then])
          refine bodyPost_end (results_none rfl _ _ _) rfl ?_
          exact ⟨rfl, HR.out.1⟩
end Go.Proofs.YtfllomfjhkgaoaaDoor

/- vellumhand.Attrs: where the copy lies; what writing over a list leaves of others. -/
namespace Go.Proofs.YtfllomfjhkgaoaaDoor
open Go Go.RowKit Go.Lib
set_option linter.unusedVariables false

/-- A copy with two more behind its end, in a block between two marks. -/
def HandO (w : World) (lo hi : Nat) (v : Value) (A : List A2) : Prop :=
  (A = [] ∧ v = .slice none 0 0) ∨ ∃ g c, A ≠ [] ∧ v = .slice (some ⟨g, 0, none⟩) A.length c ∧ g < hi ∧ OwnA w lo (.slice (some ⟨g, 0, none⟩) (A ++ [s1, s2]).length c) (A ++ [s1, s2])
/-- A row of the call's own in a block between two marks. -/
structure InA (w : World) (lo hi : Nat) (v : Value) (A : List A2) : Prop where
  own : OwnA w lo v A
  top : ∀ k, v.ownBlock = some k → k < hi
theorem InA.new {w : World} {B : Nat} {v : Value} {A : List A2} (h : OwnA w B v A) : InA w B w.heap.size v A :=
  ⟨h, fun k hk => by obtain ⟨_, cur, hc⟩ := owns_block h k hk; exact (Array.getElem?_eq_some_iff.1 hc).1⟩
theorem InA.below {w w' : World} {lo hi : Nat} {v : Value} {A : List A2} (h : InA w lo hi v A) (b : Below w.heap.size w w') : InA w' lo hi v A := ⟨owns_below h.own b, h.top⟩
theorem InA.out {w w' : World} {lo hi a b : Nat} {v : Value} {A : List A2} (h : InA w lo hi v A) (u : Out a b w w') (d : hi ≤ a ∨ b ≤ lo) : InA w' lo hi v A :=
  ⟨owns_same h.own fun k hk => by
    obtain ⟨h1, cur, h2⟩ := owns_block h.own k hk
    have := h.top k hk
    exact u.block k (Array.getElem?_eq_some_iff.1 h2).1 (by omega), h.top⟩
theorem InA.row {w : World} {lo hi : Nat} {v : Value} {A : List A2} (h : InA w lo hi v A) : RowA w v A := own_rowA h.own
theorem LiR.of_own {w : World} {lo hi B : Nat} {v : Value} {A : List A2} (h : InA w lo hi v A) : LiR w lo hi B v A.length := by
  rcases h.own.2 with h1 | ⟨g, cap, cur, h1, h2, h3, h4, h5, h6, _⟩
  · exact Or.inl h1
  · exact Or.inr ⟨g, cap, cur, h1, Or.inl ⟨h2, h.top g (by rw [h1]; rfl)⟩, h3, h4, h6⟩
theorem HandO.below {w w' : World} {lo hi : Nat} {v : Value} {A : List A2} (h : HandO w lo hi v A) (b : Below w.heap.size w w') : HandO w' lo hi v A := by
  rcases h with h | ⟨g, c, h1, h2, h3, h4⟩
  · exact Or.inl h
  · exact Or.inr ⟨g, c, h1, h2, h3, owns_below h4 b⟩
theorem HandO.out {w w' : World} {lo hi a b : Nat} {v : Value} {A : List A2} (h : HandO w lo hi v A) (u : Out a b w w') (d : hi ≤ a ∨ b ≤ lo) : HandO w' lo hi v A := by
  rcases h with h | ⟨g, c, h1, h2, h3, h4⟩
  · exact Or.inl h
  · exact Or.inr ⟨g, c, h1, h2, h3, ((InA.mk h4 (fun k hk => by simp only [Value.ownBlock, Option.some.injEq] at hk; omega) : InA w lo hi _ _).out u d).own⟩
theorem HandO.hand {w : World} {lo hi : Nat} {v : Value} {A : List A2} (h : HandO w lo hi v A) : HandA w v A := by
  rcases h with ⟨rfl, rfl⟩ | ⟨g, c, h1, rfl, h3, h4⟩
  · exact ⟨fun m c h => by simp only [Value.slice.injEq] at h; exact ⟨h.2.1.symm, h.2.2.symm⟩, RowA.nil _ _ _, fun h => absurd rfl h⟩
  · have hr := own_rowA h4
    have hl : (A ++ [s1, s2]).length = A.length + 2 := by simp
    rw [hl] at hr
    obtain ⟨p', c', e', hc', hr'⟩ := hr
    simp only [Value.slice.injEq] at e'
    obtain ⟨rfl, hL, rfl⟩ := e'
    rw [hl] at hc'
    refine ⟨fun m c h => by simp at h, ⟨_, _, rfl, by omega, fun j x hx => hr' j x (by rw [List.getElem?_append_left (List.getElem?_eq_some_iff.1 hx).1]; exact hx)⟩, fun _ => ⟨_, _, rfl, hc', ⟨_, _, by rw [hl], by rw [hl]; exact hc', hr'⟩⟩⟩
theorem HandO.li {w : World} {lo hi B : Nat} {v : Value} {A : List A2} (h : HandO w lo hi v A) : LiR w lo hi B v A.length := by
  rcases h with ⟨rfl, rfl⟩ | ⟨g, c, h1, rfl, h3, h4⟩
  · exact Or.inl ⟨rfl, rfl⟩
  · rcases h4.2 with ⟨_, h5⟩ | ⟨g', cap, cur, h5, h6, h7, h8, h9, h10, _⟩
    · simp at h5
    · simp only [Value.slice.injEq, Option.some.injEq, Addr.mk.injEq, and_true, true_and] at h5
      obtain ⟨rfl, -, rfl⟩ := h5
      exact Or.inr ⟨g, c, cur, rfl, Or.inl ⟨h6, h3⟩, h7, by simp at h8; omega, h10⟩
end Go.Proofs.YtfllomfjhkgaoaaDoor

/- build: Pieces: each piece's list lies in blocks of its own. -/
namespace Go.Proofs.YtfllomfjhkgaoaaDoor
open Go Go.RowKit Go.Lib
set_option linter.unusedVariables false

/-- Marks that rise from lo on, the first k + 1 of them up to hi. -/
structure MonZ (lo hi k : Nat) (Z : Nat → Nat) : Prop where
  mono : ∀ j, Z j ≤ Z (j + 1)
  zero : Z 0 = lo
  top : Z k ≤ hi
theorem MonZ.up {lo hi hi' k : Nat} {Z : Nat → Nat} (h : MonZ lo hi k Z) (hh : hi ≤ hi') : MonZ lo hi' k Z := ⟨h.mono, h.zero, Nat.le_trans h.top hh⟩
theorem MonZ.le {lo hi k : Nat} {Z : Nat → Nat} (h : MonZ lo hi k Z) : ∀ {i j : Nat}, i ≤ j → Z i ≤ Z j := fun {i j} hij => by
  induction j with
  | zero => obtain rfl : i = 0 := by omega
            exact Nat.le_refl _
  | succ j ih =>
    rcases Nat.lt_or_ge i (j + 1) with h1 | h1
    · exact Nat.le_trans (ih (by omega)) (h.mono j)
    · obtain rfl : i = j + 1 := by omega
      exact Nat.le_refl _
/-- Pieces, the list of the k-th between the k-th mark and the next. -/
def PieZ (w : World) (Z : Nat → Nat) (P : List Value) (E : List Op5) : Prop := P.length = E.length ∧ ∀ (k : Nat) (x : Value) (e : Op5), P[k]? = some x → E[k]? = some e → ∃ s, x = pieceQ e s ∧ InA w (Z k) (Z (k + 1)) s e.A
theorem InA.keep {w w' : World} {lo hi : Nat} {v : Value} {A : List A2} (h : InA w lo hi v A) (k : KeepA w w') : InA w' lo hi v A := ⟨keepA_own h.own k, h.top⟩
theorem PieZ.keep {w w' : World} {Z : Nat → Nat} {P : List Value} {E : List Op5} (h : PieZ w Z P E) (b : KeepA w w') : PieZ w' Z P E :=
  ⟨h.1, fun k x e hx he => by obtain ⟨s, h1, h2⟩ := h.2 k x e hx he; exact ⟨s, h1, h2.keep b⟩⟩
theorem PieZ.below {w w' : World} {Z : Nat → Nat} {P : List Value} {E : List Op5} (h : PieZ w Z P E) (b : Below w.heap.size w w') : PieZ w' Z P E := h.keep (keepA_below b)
theorem PieZ.snoc {w : World} {Z : Nat → Nat} {P : List Value} {E : List Op5} {x s : Value} {e : Op5} {lo l0 k : Nat} (hZ : MonZ l0 lo k Z) (h : PieZ w Z P E) (hk : P.length = k) (hx : x = pieceQ e s) (hs : OwnA w lo s e.A) (hlw : lo ≤ w.heap.size) :
    MonZ l0 w.heap.size (k + 1) (fun j => if j ≤ k then Z j else w.heap.size) ∧ PieZ w (fun j => if j ≤ k then Z j else w.heap.size) (P ++ [x]) (E ++ [e]) := by
  have hkw : ∀ j, j ≤ k → Z j ≤ w.heap.size := fun j hj => Nat.le_trans (hZ.le hj) (Nat.le_trans hZ.top hlw)
  refine ⟨⟨fun j => ?_, ?_, ?_⟩, by rw [List.length_append, List.length_append, h.1]; rfl, fun j y f hy hf => ?_⟩
  · by_cases h1 : j + 1 ≤ k
    · rw [if_pos (by omega), if_pos h1]; exact hZ.mono j
    · rw [if_neg h1]
      by_cases h2 : j ≤ k
      · rw [if_pos h2]; exact hkw j h2
      · rw [if_neg h2]; exact Nat.le_refl _
  · rw [if_pos (Nat.zero_le _)]; exact hZ.zero
  · rw [if_neg (by omega)]; exact Nat.le_refl _
  · have hj : j < P.length + 1 := by have := (List.getElem?_eq_some_iff.1 hy).1; rw [List.length_append] at this; exact this
    rcases Nat.lt_or_ge j P.length with h1 | h1
    · rw [List.getElem?_append_left h1] at hy
      rw [List.getElem?_append_left (by rw [← h.1]; exact h1)] at hf
      simp only []
      rw [if_pos (show j ≤ k by omega), if_pos (show j + 1 ≤ k by omega)]
      exact h.2 j y f hy hf
    · obtain rfl : j = P.length := by omega
      rw [List.getElem?_append_right (Nat.le_refl _), Nat.sub_self] at hy
      rw [List.getElem?_append_right (by rw [h.1]; exact Nat.le_refl _), h.1, Nat.sub_self] at hf
      simp only [List.getElem?_cons_zero, Option.some.injEq] at hy hf
      subst hy; subst hf
      simp only []
      rw [if_pos (show P.length ≤ k by omega), if_neg (show ¬ P.length + 1 ≤ k by omega)]
      refine ⟨s, hx, own_weaken hs (by rw [hk]; exact hZ.top), fun j hj => ?_⟩
      obtain ⟨_, cur, hc⟩ := owns_block hs j hj
      exact (Array.getElem?_eq_some_iff.1 hc).1
set_option maxHeartbeats 4000000 in
set_option maxRecDepth 100000 in
theorem piecesZ_any {B1 B2 : Nat} (v : Value) (E : List Op5) (w : World) (h : DelV w B1 B2 v E) (hg : ∀ o ∈ E, opE o = 0) (hA : ∀ o ∈ E, o.A.length ≤ 2097152) (hl : E.length ≤ 4194304) :
    Calls Tryd.prog 12 #[v] w fun e w' => ∃ v', e = .returned v' ∧ (∃ P, OwnI w' w.heap.size v' P ∧ ∃ Z, MonZ w.heap.size w'.heap.size E.length Z ∧ PieZ w' Z P E) ∧ Below w.heap.size w w' := by
  obtain ⟨q, pv, PL, rfl, _, hq, hrow, hpie⟩ := h
  have c0 : w.cell? ⟨q, 0, none⟩ = some pv := by rw [cell_of_heap hq]; rfl
  obtain ⟨p, cap, rfl, hrd⟩ := del_read (q := q) hrow hpie
  have HV : Hid (∀ k, k < E.length → ∃ ga e s, p = some ⟨ga, 0, none⟩ ∧ E[k]? = some e ∧ w.cell? ⟨ga, k, none⟩ = some (pieceQ e s) ∧ OwnA w B2 s e.A) := hrd
  have HG : Hid (∀ o ∈ E, opE o = 0 ∧ o.A.length ≤ 2097152) := fun o ho => ⟨hg o ho, hA o ho⟩
  obtain ⟨n, hn⟩ : ∃ n, E.length = n := ⟨_, rfl⟩
  have HN : Hid (E.length = n) := hn
  rw [hn] at c0 hl HV
  clear hq hrow hpie hrd hg hA hn
  go_enter Tryd.func12, Tryd.ntmps12
  go_wp2_with (at_make; refine wpList_make_pi2 _ rfl _ _ rfl w.heap.size .i64 .i64 _ n rfl rfl rfl (by omega) (Nat.le_refl _) ?_; intro v0 w1 hown hgr; have hb1 : Below w.heap.size w w1 := (Below.refl _ _).grown hgr (Nat.le_refl _) (fun k hk => by cases hk); have c1 := (hb1.cell (lt_of_cell c0)).trans c0; clear hgr)
  go_loopw [3, 17] (fun al i wr => ∃ (k : Nat) (D : List Value), k ≤ n ∧ i = .int .i64 k ∧ D.length = k ∧ OwnI wr w.heap.size al D ∧ Hid (∃ Z, MonZ w.heap.size wr.heap.size k Z ∧ PieZ wr Z D (E.take k)) ∧ Below w.heap.size w wr) (fun _ i _ => n - (RowKit.intOf i).toNat)
  case atStart => exact ⟨0, [], Nat.zero_le _, rfl, rfl, hown, ⟨fun _ => w.heap.size, ⟨fun _ => Nat.le_refl _, rfl, hb1.size⟩, by rw [List.take_zero]; exact ⟨rfl, fun k x e h => by simp at h⟩⟩, hb1⟩
  case round =>
    clear hown hb1 c1
    obtain ⟨k, D, hk, rfl, hDl, hown, hsp, hbw⟩ := hrel
    by_cases hlt : k < n
    · have hltI : (k : Int) < n := by omega
      obtain ⟨ga, e, s, rfl, he, hc, hs⟩ := HV.out k hlt
      have c2 := (hbw.cell (lt_of_cell hc)).trans hc
      have hs2 := owns_below hs hbw
      obtain ⟨hg1, hA1⟩ := HG.out e (List.mem_of_getElem? he)
      have HT : Hid (E.take (k + 1) = E.take k ++ [e]) := by show _ = _; rw [List.take_add_one, he]; rfl
      have hge : Hid (∀ j, u3.ownBlock = some j → w.heap.size ≤ j) := fun j hj => (owns_block hown j hj).1
      have HO : Hid (OwnI wr w.heap.size u3 D) := hown
      have hlen : D.length ≤ 8388608 := by omega
      have hlz : w.heap.size ≤ wr.heap.size := hbw.size
      have cO := ownP_any e s wr hg1 (own_RN hs2) hA1
      obtain ⟨u, x, hux⟩ := pieceQ_if e s
      have hq := fun s' => pieceQ_if e s'
      obtain ⟨PQ, hPQ⟩ : ∃ f : Value → Value, pieceQ e = f := ⟨_, rfl⟩
      have HPQ : Hid (pieceQ e = PQ) := hPQ
      rw [hPQ] at cO hux hq
      rw [hPQ] at c2
      rw [hux] at c2 cO
      have HSP : Hid _ := hsp.out
      clear he hc hs hs2 hown hsp hg1 hA1 hux hPQ
      go_wp2_with fail
      refine cO.mono ?_; rintro r w5 ⟨s', rfl, own5, hb5⟩
      obtain ⟨u', x', hux'⟩ := hq s'
      have HU : Hid (PQ s' = .iface u' x') := hux'
      rw [hux']
      have bw5 : Below w.heap.size w w5 := hbw.trans (hb5.mono hlz)
      have ba : Below w5.heap.size w5 (w5.alloc (.cells #[.iface u' x'] 43)) := (Below.refl _ _).alloc (Nat.le_refl _) _
      have hu6 : (w5.alloc (.cells #[.iface u' x'] 43)).cell? ⟨w5.heap.size, 0, none⟩ = some (.iface u' x') := by simp
      have HO7 : Hid (OwnI (w5.alloc (.cells #[.iface u' x'] 43)) w.heap.size u3 D) := owns_below (owns_below HO.out hb5) ba
      have HP7 : Hid (∃ Z, MonZ w.heap.size (w5.alloc (.cells #[.iface u' x'] 43)).heap.size (k + 1) Z ∧ PieZ (w5.alloc (.cells #[.iface u' x'] 43)) Z (D ++ [.iface u' x']) (E.take (k + 1))) := by
        show ∃ Z, _
        rw [HT.out]
        obtain ⟨Z, hZ, hP⟩ := HSP.out
        have hlk : D.length = k := hDl
        obtain ⟨a1, a2⟩ := PieZ.snoc (lo := wr.heap.size) (s := s') (x := .iface u' x') (e := e) hZ ((hP.below hb5).below ba) hlk (by rw [HPQ.out, HU.out]) (owns_below own5 ba) (Nat.le_trans hb5.size ba.size)
        exact ⟨_, a1, a2⟩
      have bw7 := bw5.trans (ba.mono bw5.size)
      clear own5 hb5 bw5 ba HO HT cO c2 hux' hq HSP
      go_wp2_with (at_builtin; refine wpList_append_piAt rfl (.tmp 21) (.tmp 24) rfl w.heap.size u3 D rfl HO7.out w5.heap.size 1 (.iface u' x') rfl hu6 rfl hlen bw7.size ?_; intro v8 w8 own8 gr8 hat8; have hsp8 : Hid (∃ Z, MonZ w.heap.size w8.heap.size (k + 1) Z ∧ PieZ w8 Z _ _) := (by obtain ⟨Z, h1, h2⟩ := HP7.out; exact ⟨Z, h1.up gr8.size, h2.keep (keepA_grownI HO7.out gr8)⟩); have b8 := bw7.grown gr8 bw7.size (fun j hj => hge.out j hj); have HO8 : Hid (OwnI w8 w.heap.size v8 _) := own8; clear own8 gr8 hat8 HO7 HP7 hu6)
      go_roundw
      case rel => exact ⟨k + 1, _, by omega, by go_num, by simp [hDl], HO8.out, hsp8, b8⟩
      case measure => simp [RowKit.intOf]; omega
    · have hltI : ¬ (k : Int) < n := by omega
      have hE : E.take k = E := List.take_of_length_le (by rw [HN.out]; omega)
      have hkn : k = n := by omega
      rw [hE] at hsp; have hsp := hsp.out
      have HX : Hid (∃ P, OwnI wr w.heap.size u3 P ∧ ∃ Z, MonZ w.heap.size wr.heap.size E.length Z ∧ PieZ wr Z P E) := by obtain ⟨Z, h1, h2⟩ := hsp; exact ⟨D, hown, Z, by rw [HN.out, ← hkn]; exact h1, h2⟩
      clear hown hsp
      go_wp2
      go_ret
      exact ⟨u3, rfl, HX.out, hbw⟩
end Go.Proofs.YtfllomfjhkgaoaaDoor

/- Pieces that are written over one by one: what stays. -/
namespace Go.Proofs.YtfllomfjhkgaoaaDoor
open Go Go.RowKit Go.Lib
set_option linter.unusedVariables false

/-- The pieces from the m-th on stand, and all that was there ahead of them. -/
structure KTy (w5 : World) (P : List Value) (C : List Op5) (Z : Nat → Nat) (pp : Option Addr) (m : Nat) (wr : World) : Prop where
  below : Below w5.heap.size w5 wr
  row : ∀ ga, pp = some ⟨ga, 0, none⟩ → w5.heap.size ≤ ga ∧ ∃ cur : Array Value, wr.heap[ga]? = some (.cells cur 43 (0, 0)) ∧ ∀ (k : Nat) x, m ≤ k → P[k]? = some x → cur[k]? = some x
  pie : ∀ (k : Nat) x e, m ≤ k → P[k]? = some x → C[k]? = some e → ∃ s, x = pieceQ e s ∧ InA wr (Z k) (Z (k + 1)) s e.A
theorem KTy.start {w5 w6 : World} {P : List Value} {C : List Op5} {Z : Nat → Nat} {pp : Option Addr} {n cp : Nat} (hb : Below w5.heap.size w5 w6) (h1 : OwnI w6 w5.heap.size (.slice pp n cp) P) (h2 : PieZ w6 Z P C) : KTy w5 P C Z pp 0 w6 := by
  refine ⟨hb, fun ga hga => ?_, fun k x e _ hx he => h2.2 k x e hx he⟩
  subst hga
  rcases h1.2 with ⟨e, _⟩ | ⟨g, cap, cur, e, a1, a2, a3, a4, a5, a6⟩
  · cases e
  · simp only [Value.slice.injEq, Option.some.injEq, Addr.mk.injEq, and_true] at e
    obtain ⟨rfl, -, -⟩ := e
    refine ⟨a1, cur, a2, fun k x _ hx => ?_⟩
    rw [Nat.mul_one] at a6
    rw [← a6, List.getElem?_take] at hx
    split at hx
    · simpa using hx
    · cases hx
theorem lir_exact {w : World} {lo hi : Nat} {s : Value} {A : List A2} (h : InA w lo hi s A) : ∃ L H, LiR w L H w.heap.size s A.length ∧ ∀ j, L ≤ j → j < H → s.ownBlock = some j := by
  rcases h.own.2 with h1 | ⟨g, cap, cur, h1, h2, h3, h4, h5, h6, h7⟩
  · exact ⟨0, 0, Or.inl h1, fun j _ h => by omega⟩
  · exact ⟨g, g + 1, Or.inr ⟨g, cap, cur, h1, Or.inl ⟨Nat.le_refl _, by omega⟩, h3, h4, h6⟩, fun j a b => by rw [h1]; show some g = some j; rw [show g = j by omega]⟩
theorem KTy.step {w5 wr wX wY : World} {P : List Value} {C : List Op5} {Z : Nat → Nat} {pp : Option Addr} {m ga n L H hi : Nat} {e : Op5} {s : Value} (hZ : MonZ w5.heap.size hi n Z) (h : KTy w5 P C Z pp m wr) (hX : Below wr.heap.size wr wX) (hY : Out L H wX wY) (hex : ∀ j, L ≤ j → j < H → s.ownBlock = some j) (hs : InA wr (Z m) (Z (m + 1)) s e.A) (hx : P[m]? = some (pieceQ e s)) (hga : pp = some ⟨ga, 0, none⟩) :
    wY.cell? ⟨ga, m, none⟩ = some (pieceQ e s) ∧ wY.frozen? ⟨ga, m, none⟩ = false ∧ (∀ j, j < wr.heap.size → s.ownBlock ≠ some j → wY.heap[j]? = wr.heap[j]?) ∧ ∀ u, KTy w5 P C Z pp (m + 1) (wY.setCell ⟨ga, m, none⟩ u) := by
  have key : ∀ j, j < wr.heap.size → s.ownBlock ≠ some j → wY.heap[j]? = wr.heap[j]? := fun j hj hne =>
    (hY.block j (Nat.lt_of_lt_of_le hj hX.size) (by
      by_cases h1 : L ≤ j ∧ j < H
      · exact absurd (hex j h1.1 h1.2) hne
      · omega)).trans (hX.block j hj)
  obtain ⟨hM, cur, hc, hcs⟩ := h.row ga hga
  have hgl : ga < wr.heap.size := (Array.getElem?_eq_some_iff.1 hc).1
  have hgs : s.ownBlock ≠ some ga := fun e => by
    obtain ⟨_, cur', h3⟩ := owns_block hs.own ga e
    rw [hc] at h3
    simp only [Option.some.injEq, Obj.cells.injEq] at h3
    exact absurd h3.2.1 (by decide)
  have hcY := (key ga hgl hgs).trans hc
  refine ⟨by rw [cell_of_heap hcY]; exact hcs m _ (Nat.le_refl _) hx, frozen_of_heap hcY m, key, fun u => ⟨?_, fun ga' hga' => ?_, fun k x e' hk hx' he' => ?_⟩⟩
  · have hbY : Below w5.heap.size w5 wY := by
      refine ⟨hY.os.trans (hX.os.trans h.below.os), hY.tape.trans (hX.tape.trans h.below.tape), hY.output.trans (hX.output.trans h.below.output), Nat.le_trans h.below.size (Nat.le_trans hX.size hY.size), fun j hj => ?_⟩
      have hjr : j < wr.heap.size := Nat.lt_of_lt_of_le hj h.below.size
      refine (key j hjr fun e => ?_).trans (h.below.block j hj)
      have h1 := (owns_block hs.own j e).1
      have h2 := hZ.le (Nat.zero_le m)
      rw [hZ.zero] at h2
      omega
    exact hbY.setCell hM _
  · rw [hga] at hga'
    simp only [Option.some.injEq, Addr.mk.injEq, and_true] at hga'
    subst hga'
    refine ⟨hM, _, heap_set_at _ _ _ _ _ _ _ hcY, fun k x hk hx' => ?_⟩
    rw [Array.getElem?_setIfInBounds, if_neg (by omega)]
    exact hcs k x (by omega) hx'
  · obtain ⟨s', h1, h2⟩ := h.pie k x e' (by omega) hx' he'
    refine ⟨s', h1, owns_same h2.own fun j hj => ?_, h2.top⟩
    obtain ⟨h3, cur', h4⟩ := owns_block h2.own j hj
    have hjr : j < wr.heap.size := (Array.getElem?_eq_some_iff.1 h4).1
    have hjg : j ≠ ga := fun e => by
      rw [e, hc] at h4
      simp only [Option.some.injEq, Obj.cells.injEq] at h4
      exact absurd h4.2.1 (by decide)
    rw [Below.heap_setCell _ _ _ _ hjg]
    refine key j hjr fun e => ?_
    have h5 := hs.top j e
    have h6 := hZ.le (show m + 1 ≤ k by omega)
    omega
/-- What a loop over a list of the call's own reads. -/
theorem list_read {w : World} {B1 : Nat} {v1 : Value} {C : List Op5} (h1 : CoO w B1 v1 C) :
    ∃ p1 c1, v1 = .slice p1 C.length c1 ∧ ∀ m, m < C.length → ∃ (e : Op5) (d : OV) (b : Nat), C[m]? = some e ∧ p1 = some ⟨b, 0, none⟩ ∧ OpAt w b (0 + m * 7) d ∧ d.1 = e.k ∧ d.2.1 = e.t ∧ d.2.2.1 = e.v ∧ d.2.2.2.1 = e.c ∧ OwnA w B1 (slV d.2.2.2.2) e.A := by
  obtain ⟨D, hD, hO⟩ := h1
  have hl1 := forall2_len hO
  obtain ⟨p1, c1, e1⟩ := own_slice hD
  refine ⟨p1, c1, by rw [e1, hl1], fun m hm => ?_⟩
  have hd : D[m]? = some (D[m]'(by omega)) := List.getElem?_eq_getElem (by omega)
  obtain ⟨y, hy, r⟩ := forall2_get hO m _ hd
  rcases hD.2 with ⟨_, h0⟩ | ⟨g, cap, cur, e3, _, _, _, _, _, _⟩
  · omega
  · rw [e1] at e3
    simp only [Value.slice.injEq] at e3
    have hD' := hD
    unfold OwnO at hD'
    rw [e1, e3.1] at hD'
    exact ⟨y, _, g, hy, e3.1, own_opAt hD' m _ hd, r.1, r.2.1, r.2.2.1, r.2.2.2.1, r.2.2.2.2⟩
end Go.Proofs.YtfllomfjhkgaoaaDoor

/- Of all lists of operations vellumlaw06.BuildTypes answers true. -/
namespace Go.Proofs.YtfllomfjhkgaoaaDoor
open Go Go.RowKit Go.Lib
set_option linter.unusedVariables false

set_option maxHeartbeats 8000000 in
set_option maxRecDepth 100000 in
theorem buildTypes_any {I : List Nat} {ad : Nat → Addr} (va : Value) (A : List Op5) (w : World) (hI : ∀ i ∈ IxO, i ∈ I) (hS : Std I ad w) (ra : ReO w va A) (fA : FitL A) (lA : A.length ≤ 1048576) :
    Calls Tryd.prog 5 #[va] w fun r w' => r = .returned (.bool true) ∧ Below w.heap.size w w' := by
  have cF := lives_any w hI hS
  have cL : Hid (∀ W, Below w.heap.size w W → Calls Tryd.prog 7 #[va] W fun r w' => r = .returned (.bool (decide (60000 < larN A))) ∧ Below W.heap.size W w') := fun W hW => large_any va A W (ra.below hW) fA lA
  have cM : Hid (txtS A ≤ 60000 → ∀ W, Below w.heap.size w W → Calls Tryd.prog 8 #[va] W fun r w' => ∃ dv, r = .returned dv ∧ ((ofE 0 0 A).2 = 0 → DelV w' W.heap.size W.heap.size dv (canonL A)) ∧ ((ofE 0 0 A).2 ≠ 0 → dv = .pointer none) ∧ Below W.heap.size W w') := fun ht W hW => make_any va A W hI (hS.below hW) (ra.below hW) fA lA (by omega)
  obtain ⟨D, ⟨pv, cv, rfl, _, _, _⟩, hre⟩ := ra
  obtain ⟨nv, hnv⟩ : ∃ n, D.length = n := ⟨_, rfl⟩
  rw [hnv] at cL cM ⊢
  clear hre hnv hS hI
  obtain ⟨q, hq⟩ : ∃ q, decide (60000 < larN A) = q := ⟨_, rfl⟩
  rw [hq] at cL
  have HQ : Hid (decide (60000 < larN A) = q) := hq
  have HF : Hid (FitL A ∧ A.length ≤ 1048576) := ⟨fA, lA⟩
  clear hq fA lA
  go_enter Tryd.func5, Tryd.ntmps5
  go_wp2_with fail
  refine cF.mono ?_; rintro r w1 ⟨rfl, hb1⟩
  have c1 := cL.out _ hb1
  clear cF cL
  go_wp2_with fail
  refine c1.mono ?_; rintro r w2 ⟨rfl, hb2'⟩
  have hb2 := hb1.trans (hb2'.mono hb1.size)
  clear c1 hb1 hb2'
  cases q with
  | true =>
    go_wp2
    go_ret
    exact ⟨rfl, hb2⟩
  | false =>
    have hsm := small_of HQ.out
    have c2 := cM.out hsm.1 _ hb2
    have hlA := HF.out.2
    have HO : Hid ((ofE 0 0 A).2 = 0 → OkE (canonL A) ∧ (canonL A).length ≤ 6000) := fun h => by
      have ok := okE_of h HF.out.1 (by omega) (by omega)
      obtain ⟨k1, k2, k3⟩ := canon_ok ok
      exact ⟨k1, by omega⟩
    obtain ⟨C, hC⟩ : ∃ C, canonL A = C := ⟨_, rfl⟩
    rw [hC] at c2 HO
    obtain ⟨er, her⟩ : ∃ x, (ofE 0 0 A).2 = x := ⟨_, rfl⟩
    rw [her] at c2 HO
    clear hsm cM HQ HF hC her hlA
    cases er with
    | succ e =>
      go_wp2_with fail
      refine c2.mono ?_; rintro r w3 ⟨dv, rfl, _, hd, hb3⟩
      obtain rfl := hd (by omega)
      have b3 := hb2.trans (hb3.mono hb2.size)
      clear c2 hd hb2 hb3 HO
      go_wp2
      go_ret
      exact ⟨rfl, b3⟩
    | zero =>
      have HO2 := HO.out rfl
      obtain ⟨hok, hlC⟩ := HO2
      go_wp2_with fail
      refine c2.mono ?_; rintro r w3 ⟨dv, rfl, hd, _, hb3⟩
      have hdel : DelV w3 w2.heap.size w2.heap.size dv C := hd (by first | rfl | trivial)
      obtain ⟨qd, hqd⟩ : ∃ qd, dv = .pointer (some ⟨qd, 0, none⟩) := by obtain ⟨q, _, _, e, _⟩ := hdel; exact ⟨q, e⟩
      subst hqd
      have b3 := hb2.trans (hb3.mono hb2.size)
      have cO := ops_any _ C w3 hdel hok.good (fun o ho => by have := (hok.fit o ho).n; omega) (by omega)
      have HD : Hid (DelV w3 w2.heap.size w2.heap.size (.pointer (some ⟨qd, 0, none⟩)) C ∧ OkE C) := ⟨hdel, hok⟩
      clear c2 hd hb2 hb3 HO hdel hok
      go_wp2_with fail
      refine cO.mono ?_; rintro r w5 ⟨v5, rfl, hco, hb5⟩
      have cP := piecesZ_any _ C w5 (HD.out.1.below hb5) HD.out.2.good (fun o ho => by have := (HD.out.2.fit o ho).n; omega) (by omega)
      have b5 := b3.trans (hb5.mono b3.size)
      have HD5 : Hid (DelV w5 w2.heap.size w2.heap.size (.pointer (some ⟨qd, 0, none⟩)) C ∧ OkE C) := ⟨HD.out.1.below hb5, HD.out.2⟩
      obtain ⟨p1, q1, rfl, hread⟩ := list_read hco
      have HC5 : Hid (CoO w5 w3.heap.size (.slice p1 C.length q1) C ∧ Below w.heap.size w w5) := ⟨hco, b5⟩
      have HV : Hid (∀ m, m < C.length → ∃ (e : Op5) (d : OV) (b : Nat), C[m]? = some e ∧ p1 = some ⟨b, 0, none⟩ ∧ OpAt w5 b (0 + m * 7) d ∧ d.1 = e.k ∧ d.2.1 = e.t ∧ d.2.2.1 = e.v ∧ d.2.2.2.1 = e.c ∧ OwnA w5 w3.heap.size (slV d.2.2.2.2) e.A) := hread
      clear cO hb5 b3 b5 hco hread HD
      go_wp2_with fail
      refine cP.mono ?_; rintro r w6 ⟨v6, rfl, ⟨P6, hP6, Z, hZ, hQ6⟩, hb6⟩
      obtain ⟨p2, q2, rfl⟩ := own_slice hP6
      have hl6 := hQ6.1
      have hK := KTy.start hb6 hP6 hQ6
      have HP : Hid (P6.length = C.length ∧ MonZ w5.heap.size w6.heap.size C.length Z ∧ (∀ k, k < C.length → ∃ ga, p2 = some ⟨ga, 0, none⟩)) := ⟨hl6, hZ, fun k hk => by
        obtain ⟨ga, c, x, e, _⟩ := own_cell hP6 k (by omega)
        simp only [Value.slice.injEq] at e
        exact ⟨ga, e.1⟩⟩
      rw [hl6]
      have HG : Hid (∀ o ∈ C, opE o = 0 ∧ Fit o) := fun o ho => ⟨HD5.out.2.good o ho, HD5.out.2.fitL o ho⟩
      obtain ⟨n, hn⟩ : ∃ n, C.length = n := ⟨_, rfl⟩
      have HN : Hid (C.length = n) := hn
      rw [hn] at HV hlC HC5 HP ⊢
      clear cP hb6 hP6 hQ6 hl6 hZ hn
      go_wp2
      go_loopw [33] (fun i wr => ∃ (m : Nat), m ≤ n ∧ i = .int .i64 m ∧ KTy w5 P6 C Z p2 m wr) (fun i _ => n - (RowKit.intOf i).toNat)
      case atStart => exact ⟨0, Nat.zero_le _, rfl, hK⟩
      case round =>
        clear hK
        obtain ⟨m, hm, rfl, hK⟩ := hrel
        by_cases hlt : m < n
        · have hltI : (m : Int) < n := by omega
          have hge0 : decide ((n : Int) ≤ (m : Int)) = false := decide_eq_false (by omega)
          have hge1 : ((m : Int) ≥ (n : Int)) = False := by simp; omega
          obtain ⟨e, d, b, he, rfl, hin, k1, k2, k3, k4, hrs'⟩ := HV.out m hlt
          obtain ⟨ga, rfl⟩ := HP.out.2.2 m hlt
          rw [Nat.zero_add] at hin
          obtain ⟨hge, hfe⟩ := HG.out e (List.mem_of_getElem? he)
          obtain ⟨x6, hx6⟩ : ∃ x, P6[m]? = some x := ⟨_, List.getElem?_eq_getElem (by rw [HP.out.1]; exact hlt)⟩
          obtain ⟨s, rfl, hsI⟩ := hK.pie m x6 e (Nat.le_refl _) hx6 he
          have hkk := kinds_of hge
          have hrs := own_RN (owns_below hrs' hK.below)
          have hrp := own_RN hsI.own
          have hAl : e.A.length ≤ 1048576 := hfe.n
          obtain ⟨c0, c1, c2, c3, c4, c5, c6⟩ := hin.below hK.below
          have cp : wr.cell? ⟨ga, m, none⟩ = some (pieceQ e s) := by
            obtain ⟨_, cur, hc, hcs⟩ := hK.row ga rfl
            rw [cell_of_heap hc]
            exact hcs m _ (Nat.le_refl _) hx6
          have hbz : b < wr.heap.size := lt_of_cell c0
          have hgz : ga < wr.heap.size := lt_of_cell cp
          have n1 : ¬ b = wr.heap.size := by omega
          have n2 : ¬ wr.heap.size = b := by omega
          have n3 : ¬ ga = wr.heap.size := by omega
          have n4 : ¬ ga = wr.heap.size + 1 := by omega
          have n5 : ¬ wr.heap.size = ga := by omega
          have n6 : ¬ wr.heap.size + 1 = ga := by omega
          have HLI : Hid (∃ L H, (∀ W, Below wr.heap.size wr W → LiR W L H W.heap.size s e.A.length) ∧ ∀ j, L ≤ j → j < H → s.ownBlock = some j) := by
            rcases hsI.own.2 with h1 | ⟨g, cap, cur, h1, h2, h3, h4, h5, h6, h7⟩
            · exact ⟨0, 0, fun W hW => Or.inl h1, fun j _ h => by omega⟩
            · exact ⟨g, g + 1, fun W hW => Or.inr ⟨g, cap, cur, h1, Or.inl ⟨Nat.le_refl _, by omega⟩, (hW.block g (Array.getElem?_eq_some_iff.1 h3).1).trans h3, h4, h6⟩, fun j a b => by rw [h1]; show some g = some j; rw [show g = j by omega]⟩
          have HST : Hid (∀ wX wY L H, Below wr.heap.size wr wX → Out L H wX wY → (∀ j, L ≤ j → j < H → s.ownBlock = some j) → wY.cell? ⟨ga, m, none⟩ = some (pieceQ e s) ∧ wY.frozen? ⟨ga, m, none⟩ = false ∧ (∀ j, j < wr.heap.size → s.ownBlock ≠ some j → wY.heap[j]? = wr.heap[j]?) ∧ ∀ u, KTy w5 P6 C Z (some ⟨ga, 0, none⟩) (m + 1) (wY.setCell ⟨ga, m, none⟩ u)) := fun wX wY L H h1 h2 h3 => KTy.step HP.out.2.1 hK h1 h2 h3 hsI hx6 rfl
          have HNE : Hid (∀ (W : World) {v : Value}, W.cell? ⟨wr.heap.size, 0, none⟩ = some v → s.ownBlock ≠ some wr.heap.size) := fun W v _ h => by
            obtain ⟨_, cur, hc⟩ := owns_block hsI.own _ h
            have := (Array.getElem?_eq_some_iff.1 hc).1
            omega
          have HSA : Hid (∀ W, Below wr.heap.size wr W → Calls Tryd.prog 16 #[s, slV d.2.2.2.2] W fun r w' => r = .returned (.bool true) ∧ Below W.heap.size W w') := fun W hW => by
            have := refSame_any s (slV d.2.2.2.2) e.A e.A W (hrp.below hW).row (hrs.below hW).row (by omega) (by omega)
            rw [decide_eq_true rfl] at this
            exact this
          obtain ⟨PQ, hPQ⟩ : ∃ z, pieceQ e s = z := ⟨_, rfl⟩
          have HK : Hid (pieceQ e s = PQ) := hPQ
          obtain ⟨ps, cs, hsl⟩ := own_slice hsI.own
          have HL6 : Hid (∀ W, Calls Tryd.prog 15 #[opV e (slV d.2.2.2.2)] W fun r w' => r = .returned (.int .i64 (len5 e)) ∧ Below W.heap.size W w') := fun W => len6_any e _ _ _ W hge hfe.t
          obtain ⟨ls, hls⟩ : ∃ l, e.A.length = l := ⟨_, rfl⟩
          rw [hls] at hsl hAl HLI
          rw [hsl] at HLI HST HNE HSA HK cp
          have hgg := op_good hge
          obtain ⟨f, t, ⟨x, z, u⟩, cc1, p, j, cc⟩ := d
          obtain ⟨ek, et, ev, ec, eA⟩ := e
          simp only at k1 k2 k3 k4
          subst k1 k2 k3 k4
          simp only [slV] at c0 c1 c2 c3 c4 c5 c6 HSA HL6
          clear hin he hx6 hsI hrs' hrs hrp hfe hge hK hPQ hsl hls
          rcases hkk with h | h | h | h
          · simp only at h
            subst h
            have e9 : len5 (⟨1, t, (x, z, u), cc1, eA⟩ : Op5) = ((scs t.data.toList).length : Int) := by unfold len5 lenO; simp
            rw [e9] at HL6
            obtain ⟨sn, hsn⟩ : ∃ y : Int, ((scs t.data.toList).length : Int) = y := ⟨_, rfl⟩
            rw [pieceQ_1 rfl] at cp HK HST
            simp only at cp HK HST
            rw [hsn] at cp HK HL6 HST
            have HLN := HL6
            have q1 := beq_key (x := t) (y := t) true (decide_eq_true rfl)
            have as1 := as_i_i
            clear hgg hsn HL6 e9
            obtain ⟨W1, hW1⟩ : ∃ W, W = (wr.alloc (.cells #[.int .i64 1, .string t, .int .i64 x, .int .i64 z, .string u, .int .i64 cc1, .slice p j cc] 33)).alloc (.cells #[.slice ps ls cs, .string t, .int .i64 sn] 55) := ⟨_, rfl⟩
            have b1 : Below wr.heap.size wr W1 := by rw [hW1]; exact ((Below.refl _ _).alloc (Nat.le_refl _) _).alloc (by simp) _
            have d0 : W1.cell? ⟨wr.heap.size, 0, none⟩ = some (.int .i64 1) := by rw [hW1]; simp
            have d1 : W1.cell? ⟨wr.heap.size, 1, none⟩ = some (.string t) := by rw [hW1]; simp
            have d2 : W1.cell? ⟨wr.heap.size, 2, none⟩ = some (.int .i64 x) := by rw [hW1]; simp
            have d3 : W1.cell? ⟨wr.heap.size, 3, none⟩ = some (.int .i64 z) := by rw [hW1]; simp
            have d4 : W1.cell? ⟨wr.heap.size, 4, none⟩ = some (.string u) := by rw [hW1]; simp
            have d5 : W1.cell? ⟨wr.heap.size, 5, none⟩ = some (.int .i64 cc1) := by rw [hW1]; simp
            have d6 : W1.cell? ⟨wr.heap.size, 6, none⟩ = some (.slice p j cc) := by rw [hW1]; simp
            have e0 : W1.cell? ⟨wr.heap.size + 1, 0, none⟩ = some (.slice ps ls cs) := by rw [hW1]; simp
            have e1 : W1.cell? ⟨wr.heap.size + 1, 1, none⟩ = some (.string t) := by rw [hW1]; simp
            have e2 : W1.cell? ⟨wr.heap.size + 1, 2, none⟩ = some (.int .i64 sn) := by rw [hW1]; simp
            have HU : Hid (∀ w', Below W1.drew.heap.size W1.drew w' → (w'.cell? ⟨wr.heap.size, 0, none⟩ = some (.int .i64 1) ∧ w'.cell? ⟨wr.heap.size, 1, none⟩ = some (.string t) ∧ w'.cell? ⟨wr.heap.size, 2, none⟩ = some (.int .i64 x) ∧ w'.cell? ⟨wr.heap.size, 3, none⟩ = some (.int .i64 z) ∧ w'.cell? ⟨wr.heap.size, 4, none⟩ = some (.string u) ∧ w'.cell? ⟨wr.heap.size, 5, none⟩ = some (.int .i64 cc1) ∧ w'.cell? ⟨wr.heap.size, 6, none⟩ = some (.slice p j cc) ∧ w'.cell? ⟨wr.heap.size + 1, 0, none⟩ = some (.slice ps ls cs) ∧ w'.cell? ⟨wr.heap.size + 1, 1, none⟩ = some (.string t) ∧ w'.cell? ⟨wr.heap.size + 1, 2, none⟩ = some (.int .i64 sn))) := fun w' hb => ⟨(hb.cell (lt_of_cell (w := W1.drew) d0)).trans d0, (hb.cell (lt_of_cell (w := W1.drew) d1)).trans d1, (hb.cell (lt_of_cell (w := W1.drew) d2)).trans d2, (hb.cell (lt_of_cell (w := W1.drew) d3)).trans d3, (hb.cell (lt_of_cell (w := W1.drew) d4)).trans d4, (hb.cell (lt_of_cell (w := W1.drew) d5)).trans d5, (hb.cell (lt_of_cell (w := W1.drew) d6)).trans d6, (hb.cell (lt_of_cell (w := W1.drew) e0)).trans e0, (hb.cell (lt_of_cell (w := W1.drew) e1)).trans e1, (hb.cell (lt_of_cell (w := W1.drew) e2)).trans e2⟩
            have cS : Hid (∀ W, Below wr.heap.size wr W → Calls Tryd.prog 16 #[.slice ps ls cs, .slice p j cc] W fun r w' => r = .returned (.bool true) ∧ Below W.heap.size W w') := fun W hW => HSA.out W hW
            have hz1 : wr.heap.size ≤ W1.drew.heap.size := b1.size
            have hb1d : Below wr.heap.size wr W1.drew := b1.drew
            have cN : Hid (∀ W, Calls Tryd.prog 15 #[.agg #[.int .i64 1, .string t, .int .i64 x, .int .i64 z, .string u, .int .i64 cc1, .slice p j cc]] W fun r w' => r = .returned (.int .i64 sn) ∧ Below W.heap.size W w') := HLN
            go_upto_region 19 with fail
            rw [← hW1]
            clear hW1
            go_region_held3 (fun w' => (w'.cell? ⟨wr.heap.size, 0, none⟩ = some (.int .i64 1) ∧ w'.cell? ⟨wr.heap.size, 1, none⟩ = some (.string t) ∧ w'.cell? ⟨wr.heap.size, 2, none⟩ = some (.int .i64 x) ∧ w'.cell? ⟨wr.heap.size, 3, none⟩ = some (.int .i64 z) ∧ w'.cell? ⟨wr.heap.size, 4, none⟩ = some (.string u) ∧ w'.cell? ⟨wr.heap.size, 5, none⟩ = some (.int .i64 cc1) ∧ w'.cell? ⟨wr.heap.size, 6, none⟩ = some (.slice p j cc) ∧ w'.cell? ⟨wr.heap.size + 1, 0, none⟩ = some (.slice ps ls cs) ∧ w'.cell? ⟨wr.heap.size + 1, 1, none⟩ = some (.string t) ∧ w'.cell? ⟨wr.heap.size + 1, 2, none⟩ = some (.int .i64 sn)) ∧ Below wr.heap.size wr w')
              (exact ⟨by first | (with_reducible assumption) | (simp [*]; done), by first | (with_reducible assumption) | exact hb1d⟩)
              (first
              | (go_at_call 16; refine (cS.out _ ?_).mono ?_; (· first | assumption | (apply And.right; assumption)); rintro r wC ⟨rfl, bC'⟩; have bC : Below W1.drew.heap.size W1.drew wC := bB.trans (bC'.mono bB.size); have jC : Below wr.heap.size wr wC := hb1d.trans (bC.mono hz1); have mmC := HU.out _ bC)
              | (go_at_call 15; refine (cN.out _).mono ?_; rintro r wB ⟨rfl, bB⟩; have jB : Below wr.heap.size wr wB := hb1d.trans (bB.mono hz1); have mmB := HU.out _ bB))
            clear d0 d1 d2 d3 d4 d5 d6 e0 e1 e2 bB mmB jB bC cS cN
            obtain ⟨d0, d1, d2, d3, d4, d5, d6, e0, e1, e2⟩ := mmC
            obtain ⟨LL, HH, hli, hex⟩ := HLI.out
            have cV := overAttrs_any _ _ LL HH wC (hli wC jC) hAl
            have d0s := HNE.out wC d0
            clear hli
            go_wp2_with fail
            refine cV.mono ?_; rintro r wE ⟨rfl, hO⟩
            obtain ⟨y1, y2, y3, y4⟩ := HST.out wC wE LL HH jC hO hex
            have q0 : wE.cell? ⟨wr.heap.size, 0, none⟩ = some (.int .i64 1) := by
              have h1 : wE.heap[wr.heap.size]? = wC.heap[wr.heap.size]? := hO.block _ (lt_of_cell d0) (by
                by_cases h2 : LL ≤ wr.heap.size ∧ wr.heap.size < HH
                · exact absurd (hex _ h2.1 h2.2) d0s
                · omega)
              exact (World.cell?_of_block (a := ⟨wr.heap.size, 0, none⟩) h1).trans d0
            rw [HK.out] at y1
            have HF : Hid (∀ u, KTy w5 P6 C Z (some ⟨ga, 0, none⟩) (m + 1) (wE.setCell ⟨ga, m, none⟩ u)) := y4
            clear cV hO hex y3 y4 d0 d1 d2 d3 d4 d5 d6 e0 e1 e2 d0s
            go_wp2
            go_roundw
            case rel => exact ⟨m + 1, by omega, by go_num, HF.out _⟩
            case measure => simp [RowKit.intOf]; omega
          · simp only at h
            subst h
            have hval : chkP (x, z, u) = 0 := by rcases hgg with ⟨hi, _⟩ | ⟨_, _, h3⟩ | ⟨_, _, h4⟩; exact hi.val; (simp only at h3; omega); (simp only at h4; omega)
            rw [pieceQ_2 rfl] at cp HK HST
            simp only at cp HK HST
            have as1 := as_e_i
            have as2 := as_e_e
            have q1 := beq_key (x := t) (y := t) true (decide_eq_true rfl)
            have hne := eql_pl (x, z, u) (x, z, u) true (by rw [samP_self])
            have gd := fun op e e' w => guard_pl op e e' (x, z, u) (x, z, u) w
            clear hgg HL6
            rcases good_cases hval with ⟨rfl, rfl, rfl⟩ | ⟨rfl, rfl, rfl⟩ | ⟨rfl, rfl, rfl⟩ | ⟨rfl, rfl⟩ | ⟨rfl, rfl, _⟩
            · skip
              have hvv : valP (0, 0, ⟨#[]⟩) = .iface 119 (.agg #[]) := by rfl
              rw [hvv] at cp HK HST
              clear hvv hval
              obtain ⟨W1, hW1⟩ : ∃ W, W = (wr.alloc (.cells #[.int .i64 2, .string t, .int .i64 0, .int .i64 0, .string ⟨#[]⟩, .int .i64 cc1, .slice p j cc] 33)).alloc (.cells #[.slice ps ls cs, .string t, .iface 119 (.agg #[])] 60) := ⟨_, rfl⟩
              have b1 : Below wr.heap.size wr W1 := by rw [hW1]; exact ((Below.refl _ _).alloc (Nat.le_refl _) _).alloc (by simp) _
              have d0 : W1.cell? ⟨wr.heap.size, 0, none⟩ = some (.int .i64 2) := by rw [hW1]; simp
              have d1 : W1.cell? ⟨wr.heap.size, 1, none⟩ = some (.string t) := by rw [hW1]; simp
              have d2 : W1.cell? ⟨wr.heap.size, 2, none⟩ = some (.int .i64 0) := by rw [hW1]; simp
              have d3 : W1.cell? ⟨wr.heap.size, 3, none⟩ = some (.int .i64 0) := by rw [hW1]; simp
              have d4 : W1.cell? ⟨wr.heap.size, 4, none⟩ = some (.string ⟨#[]⟩) := by rw [hW1]; simp
              have d5 : W1.cell? ⟨wr.heap.size, 5, none⟩ = some (.int .i64 cc1) := by rw [hW1]; simp
              have d6 : W1.cell? ⟨wr.heap.size, 6, none⟩ = some (.slice p j cc) := by rw [hW1]; simp
              have e0 : W1.cell? ⟨wr.heap.size + 1, 0, none⟩ = some (.slice ps ls cs) := by rw [hW1]; simp
              have e1 : W1.cell? ⟨wr.heap.size + 1, 1, none⟩ = some (.string t) := by rw [hW1]; simp
              have e2 : W1.cell? ⟨wr.heap.size + 1, 2, none⟩ = some (.iface 119 (.agg #[])) := by rw [hW1]; simp
              have HU : Hid (∀ w', Below W1.drew.heap.size W1.drew w' → (w'.cell? ⟨wr.heap.size, 0, none⟩ = some (.int .i64 2) ∧ w'.cell? ⟨wr.heap.size, 1, none⟩ = some (.string t) ∧ w'.cell? ⟨wr.heap.size, 2, none⟩ = some (.int .i64 0) ∧ w'.cell? ⟨wr.heap.size, 3, none⟩ = some (.int .i64 0) ∧ w'.cell? ⟨wr.heap.size, 4, none⟩ = some (.string ⟨#[]⟩) ∧ w'.cell? ⟨wr.heap.size, 5, none⟩ = some (.int .i64 cc1) ∧ w'.cell? ⟨wr.heap.size, 6, none⟩ = some (.slice p j cc) ∧ w'.cell? ⟨wr.heap.size + 1, 0, none⟩ = some (.slice ps ls cs) ∧ w'.cell? ⟨wr.heap.size + 1, 1, none⟩ = some (.string t) ∧ w'.cell? ⟨wr.heap.size + 1, 2, none⟩ = some (.iface 119 (.agg #[])))) := fun w' hb => ⟨(hb.cell (lt_of_cell (w := W1.drew) d0)).trans d0, (hb.cell (lt_of_cell (w := W1.drew) d1)).trans d1, (hb.cell (lt_of_cell (w := W1.drew) d2)).trans d2, (hb.cell (lt_of_cell (w := W1.drew) d3)).trans d3, (hb.cell (lt_of_cell (w := W1.drew) d4)).trans d4, (hb.cell (lt_of_cell (w := W1.drew) d5)).trans d5, (hb.cell (lt_of_cell (w := W1.drew) d6)).trans d6, (hb.cell (lt_of_cell (w := W1.drew) e0)).trans e0, (hb.cell (lt_of_cell (w := W1.drew) e1)).trans e1, (hb.cell (lt_of_cell (w := W1.drew) e2)).trans e2⟩
              have cS : Hid (∀ W, Below wr.heap.size wr W → Calls Tryd.prog 16 #[.slice ps ls cs, .slice p j cc] W fun r w' => r = .returned (.bool true) ∧ Below W.heap.size W w') := fun W hW => HSA.out W hW
              have hz1 : wr.heap.size ≤ W1.drew.heap.size := b1.size
              have hb1d : Below wr.heap.size wr W1.drew := b1.drew
              go_upto_region 24 with fail
              rw [← hW1]
              clear hW1
              go_region_held3 (fun w' => (w'.cell? ⟨wr.heap.size, 0, none⟩ = some (.int .i64 2) ∧ w'.cell? ⟨wr.heap.size, 1, none⟩ = some (.string t) ∧ w'.cell? ⟨wr.heap.size, 2, none⟩ = some (.int .i64 0) ∧ w'.cell? ⟨wr.heap.size, 3, none⟩ = some (.int .i64 0) ∧ w'.cell? ⟨wr.heap.size, 4, none⟩ = some (.string ⟨#[]⟩) ∧ w'.cell? ⟨wr.heap.size, 5, none⟩ = some (.int .i64 cc1) ∧ w'.cell? ⟨wr.heap.size, 6, none⟩ = some (.slice p j cc) ∧ w'.cell? ⟨wr.heap.size + 1, 0, none⟩ = some (.slice ps ls cs) ∧ w'.cell? ⟨wr.heap.size + 1, 1, none⟩ = some (.string t) ∧ w'.cell? ⟨wr.heap.size + 1, 2, none⟩ = some (.iface 119 (.agg #[]))) ∧ Below wr.heap.size wr w')
                (exact ⟨by first | (with_reducible assumption) | (simp [*]; done), by first | (with_reducible assumption) | exact hb1d⟩)
                (first
                | (go_at_call 16; refine (cS.out _ ?_).mono ?_; (· first | assumption | (apply And.right; assumption)); rintro r wC ⟨rfl, bC'⟩; have bC : Below W1.drew.heap.size W1.drew wC := bB.trans (bC'.mono bB.size); have jC : Below wr.heap.size wr wC := hb1d.trans (bC.mono hz1); have mmC := HU.out _ bC)
                | (go_at_call 104; refine (plain_n _).mono ?_; rintro r wB ⟨rfl, bB⟩; have jB : Below wr.heap.size wr wB := hb1d.trans (bB.mono hz1); have mmB := HU.out _ bB))
              clear d0 d1 d2 d3 d4 d5 d6 e0 e1 e2 bB mmB jB bC cS 
              obtain ⟨d0, d1, d2, d3, d4, d5, d6, e0, e1, e2⟩ := mmC
              obtain ⟨LL, HH, hli, hex⟩ := HLI.out
              have cV := overAttrs_any _ _ LL HH wC (hli wC jC) hAl
              have d0s := HNE.out wC d0
              clear hli
              go_wp2_with fail
              refine cV.mono ?_; rintro r wE ⟨rfl, hO⟩
              obtain ⟨y1, y2, y3, y4⟩ := HST.out wC wE LL HH jC hO hex
              have q0 : wE.cell? ⟨wr.heap.size, 0, none⟩ = some (.int .i64 2) := by
                have h1 : wE.heap[wr.heap.size]? = wC.heap[wr.heap.size]? := hO.block _ (lt_of_cell d0) (by
                  by_cases h2 : LL ≤ wr.heap.size ∧ wr.heap.size < HH
                  · exact absurd (hex _ h2.1 h2.2) d0s
                  · omega)
                exact (World.cell?_of_block (a := ⟨wr.heap.size, 0, none⟩) h1).trans d0
              rw [HK.out] at y1
              have HF : Hid (∀ u, KTy w5 P6 C Z (some ⟨ga, 0, none⟩) (m + 1) (wE.setCell ⟨ga, m, none⟩ u)) := y4
              clear cV hO hex y3 y4 d0 d1 d2 d3 d4 d5 d6 e0 e1 e2 d0s
              go_wp2
              go_roundw
              case rel => exact ⟨m + 1, by omega, by go_num, HF.out _⟩
              case measure => simp [RowKit.intOf]; omega
            · skip
              have hvv : valP (1, 0, ⟨#[]⟩) = .iface 115 (.bool false) := by rfl
              rw [hvv] at cp HK HST
              clear hvv hval
              obtain ⟨W1, hW1⟩ : ∃ W, W = (wr.alloc (.cells #[.int .i64 2, .string t, .int .i64 1, .int .i64 0, .string ⟨#[]⟩, .int .i64 cc1, .slice p j cc] 33)).alloc (.cells #[.slice ps ls cs, .string t, .iface 115 (.bool false)] 60) := ⟨_, rfl⟩
              have b1 : Below wr.heap.size wr W1 := by rw [hW1]; exact ((Below.refl _ _).alloc (Nat.le_refl _) _).alloc (by simp) _
              have d0 : W1.cell? ⟨wr.heap.size, 0, none⟩ = some (.int .i64 2) := by rw [hW1]; simp
              have d1 : W1.cell? ⟨wr.heap.size, 1, none⟩ = some (.string t) := by rw [hW1]; simp
              have d2 : W1.cell? ⟨wr.heap.size, 2, none⟩ = some (.int .i64 1) := by rw [hW1]; simp
              have d3 : W1.cell? ⟨wr.heap.size, 3, none⟩ = some (.int .i64 0) := by rw [hW1]; simp
              have d4 : W1.cell? ⟨wr.heap.size, 4, none⟩ = some (.string ⟨#[]⟩) := by rw [hW1]; simp
              have d5 : W1.cell? ⟨wr.heap.size, 5, none⟩ = some (.int .i64 cc1) := by rw [hW1]; simp
              have d6 : W1.cell? ⟨wr.heap.size, 6, none⟩ = some (.slice p j cc) := by rw [hW1]; simp
              have e0 : W1.cell? ⟨wr.heap.size + 1, 0, none⟩ = some (.slice ps ls cs) := by rw [hW1]; simp
              have e1 : W1.cell? ⟨wr.heap.size + 1, 1, none⟩ = some (.string t) := by rw [hW1]; simp
              have e2 : W1.cell? ⟨wr.heap.size + 1, 2, none⟩ = some (.iface 115 (.bool false)) := by rw [hW1]; simp
              have HU : Hid (∀ w', Below W1.drew.heap.size W1.drew w' → (w'.cell? ⟨wr.heap.size, 0, none⟩ = some (.int .i64 2) ∧ w'.cell? ⟨wr.heap.size, 1, none⟩ = some (.string t) ∧ w'.cell? ⟨wr.heap.size, 2, none⟩ = some (.int .i64 1) ∧ w'.cell? ⟨wr.heap.size, 3, none⟩ = some (.int .i64 0) ∧ w'.cell? ⟨wr.heap.size, 4, none⟩ = some (.string ⟨#[]⟩) ∧ w'.cell? ⟨wr.heap.size, 5, none⟩ = some (.int .i64 cc1) ∧ w'.cell? ⟨wr.heap.size, 6, none⟩ = some (.slice p j cc) ∧ w'.cell? ⟨wr.heap.size + 1, 0, none⟩ = some (.slice ps ls cs) ∧ w'.cell? ⟨wr.heap.size + 1, 1, none⟩ = some (.string t) ∧ w'.cell? ⟨wr.heap.size + 1, 2, none⟩ = some (.iface 115 (.bool false)))) := fun w' hb => ⟨(hb.cell (lt_of_cell (w := W1.drew) d0)).trans d0, (hb.cell (lt_of_cell (w := W1.drew) d1)).trans d1, (hb.cell (lt_of_cell (w := W1.drew) d2)).trans d2, (hb.cell (lt_of_cell (w := W1.drew) d3)).trans d3, (hb.cell (lt_of_cell (w := W1.drew) d4)).trans d4, (hb.cell (lt_of_cell (w := W1.drew) d5)).trans d5, (hb.cell (lt_of_cell (w := W1.drew) d6)).trans d6, (hb.cell (lt_of_cell (w := W1.drew) e0)).trans e0, (hb.cell (lt_of_cell (w := W1.drew) e1)).trans e1, (hb.cell (lt_of_cell (w := W1.drew) e2)).trans e2⟩
              have cS : Hid (∀ W, Below wr.heap.size wr W → Calls Tryd.prog 16 #[.slice ps ls cs, .slice p j cc] W fun r w' => r = .returned (.bool true) ∧ Below W.heap.size W w') := fun W hW => HSA.out W hW
              have hz1 : wr.heap.size ≤ W1.drew.heap.size := b1.size
              have hb1d : Below wr.heap.size wr W1.drew := b1.drew
              go_upto_region 24 with fail
              rw [← hW1]
              clear hW1
              go_region_held3 (fun w' => (w'.cell? ⟨wr.heap.size, 0, none⟩ = some (.int .i64 2) ∧ w'.cell? ⟨wr.heap.size, 1, none⟩ = some (.string t) ∧ w'.cell? ⟨wr.heap.size, 2, none⟩ = some (.int .i64 1) ∧ w'.cell? ⟨wr.heap.size, 3, none⟩ = some (.int .i64 0) ∧ w'.cell? ⟨wr.heap.size, 4, none⟩ = some (.string ⟨#[]⟩) ∧ w'.cell? ⟨wr.heap.size, 5, none⟩ = some (.int .i64 cc1) ∧ w'.cell? ⟨wr.heap.size, 6, none⟩ = some (.slice p j cc) ∧ w'.cell? ⟨wr.heap.size + 1, 0, none⟩ = some (.slice ps ls cs) ∧ w'.cell? ⟨wr.heap.size + 1, 1, none⟩ = some (.string t) ∧ w'.cell? ⟨wr.heap.size + 1, 2, none⟩ = some (.iface 115 (.bool false))) ∧ Below wr.heap.size wr w')
                (exact ⟨by first | (with_reducible assumption) | (simp [*]; done), by first | (with_reducible assumption) | exact hb1d⟩)
                (first
                | (go_at_call 16; refine (cS.out _ ?_).mono ?_; (· first | assumption | (apply And.right; assumption)); rintro r wC ⟨rfl, bC'⟩; have bC : Below W1.drew.heap.size W1.drew wC := bB.trans (bC'.mono bB.size); have jC : Below wr.heap.size wr wC := hb1d.trans (bC.mono hz1); have mmC := HU.out _ bC)
                | (go_at_call 98; refine (plain_f false _).mono ?_; rintro r wB ⟨rfl, bB⟩; have jB : Below wr.heap.size wr wB := hb1d.trans (bB.mono hz1); have mmB := HU.out _ bB))
              clear d0 d1 d2 d3 d4 d5 d6 e0 e1 e2 bB mmB jB bC cS 
              obtain ⟨d0, d1, d2, d3, d4, d5, d6, e0, e1, e2⟩ := mmC
              obtain ⟨LL, HH, hli, hex⟩ := HLI.out
              have cV := overAttrs_any _ _ LL HH wC (hli wC jC) hAl
              have d0s := HNE.out wC d0
              clear hli
              go_wp2_with fail
              refine cV.mono ?_; rintro r wE ⟨rfl, hO⟩
              obtain ⟨y1, y2, y3, y4⟩ := HST.out wC wE LL HH jC hO hex
              have q0 : wE.cell? ⟨wr.heap.size, 0, none⟩ = some (.int .i64 2) := by
                have h1 : wE.heap[wr.heap.size]? = wC.heap[wr.heap.size]? := hO.block _ (lt_of_cell d0) (by
                  by_cases h2 : LL ≤ wr.heap.size ∧ wr.heap.size < HH
                  · exact absurd (hex _ h2.1 h2.2) d0s
                  · omega)
                exact (World.cell?_of_block (a := ⟨wr.heap.size, 0, none⟩) h1).trans d0
              rw [HK.out] at y1
              have HF : Hid (∀ u, KTy w5 P6 C Z (some ⟨ga, 0, none⟩) (m + 1) (wE.setCell ⟨ga, m, none⟩ u)) := y4
              clear cV hO hex y3 y4 d0 d1 d2 d3 d4 d5 d6 e0 e1 e2 d0s
              go_wp2
              go_roundw
              case rel => exact ⟨m + 1, by omega, by go_num, HF.out _⟩
              case measure => simp [RowKit.intOf]; omega
            · skip
              have hvv : valP (1, 1, ⟨#[]⟩) = .iface 115 (.bool true) := by rfl
              rw [hvv] at cp HK HST
              clear hvv hval
              obtain ⟨W1, hW1⟩ : ∃ W, W = (wr.alloc (.cells #[.int .i64 2, .string t, .int .i64 1, .int .i64 1, .string ⟨#[]⟩, .int .i64 cc1, .slice p j cc] 33)).alloc (.cells #[.slice ps ls cs, .string t, .iface 115 (.bool true)] 60) := ⟨_, rfl⟩
              have b1 : Below wr.heap.size wr W1 := by rw [hW1]; exact ((Below.refl _ _).alloc (Nat.le_refl _) _).alloc (by simp) _
              have d0 : W1.cell? ⟨wr.heap.size, 0, none⟩ = some (.int .i64 2) := by rw [hW1]; simp
              have d1 : W1.cell? ⟨wr.heap.size, 1, none⟩ = some (.string t) := by rw [hW1]; simp
              have d2 : W1.cell? ⟨wr.heap.size, 2, none⟩ = some (.int .i64 1) := by rw [hW1]; simp
              have d3 : W1.cell? ⟨wr.heap.size, 3, none⟩ = some (.int .i64 1) := by rw [hW1]; simp
              have d4 : W1.cell? ⟨wr.heap.size, 4, none⟩ = some (.string ⟨#[]⟩) := by rw [hW1]; simp
              have d5 : W1.cell? ⟨wr.heap.size, 5, none⟩ = some (.int .i64 cc1) := by rw [hW1]; simp
              have d6 : W1.cell? ⟨wr.heap.size, 6, none⟩ = some (.slice p j cc) := by rw [hW1]; simp
              have e0 : W1.cell? ⟨wr.heap.size + 1, 0, none⟩ = some (.slice ps ls cs) := by rw [hW1]; simp
              have e1 : W1.cell? ⟨wr.heap.size + 1, 1, none⟩ = some (.string t) := by rw [hW1]; simp
              have e2 : W1.cell? ⟨wr.heap.size + 1, 2, none⟩ = some (.iface 115 (.bool true)) := by rw [hW1]; simp
              have HU : Hid (∀ w', Below W1.drew.heap.size W1.drew w' → (w'.cell? ⟨wr.heap.size, 0, none⟩ = some (.int .i64 2) ∧ w'.cell? ⟨wr.heap.size, 1, none⟩ = some (.string t) ∧ w'.cell? ⟨wr.heap.size, 2, none⟩ = some (.int .i64 1) ∧ w'.cell? ⟨wr.heap.size, 3, none⟩ = some (.int .i64 1) ∧ w'.cell? ⟨wr.heap.size, 4, none⟩ = some (.string ⟨#[]⟩) ∧ w'.cell? ⟨wr.heap.size, 5, none⟩ = some (.int .i64 cc1) ∧ w'.cell? ⟨wr.heap.size, 6, none⟩ = some (.slice p j cc) ∧ w'.cell? ⟨wr.heap.size + 1, 0, none⟩ = some (.slice ps ls cs) ∧ w'.cell? ⟨wr.heap.size + 1, 1, none⟩ = some (.string t) ∧ w'.cell? ⟨wr.heap.size + 1, 2, none⟩ = some (.iface 115 (.bool true)))) := fun w' hb => ⟨(hb.cell (lt_of_cell (w := W1.drew) d0)).trans d0, (hb.cell (lt_of_cell (w := W1.drew) d1)).trans d1, (hb.cell (lt_of_cell (w := W1.drew) d2)).trans d2, (hb.cell (lt_of_cell (w := W1.drew) d3)).trans d3, (hb.cell (lt_of_cell (w := W1.drew) d4)).trans d4, (hb.cell (lt_of_cell (w := W1.drew) d5)).trans d5, (hb.cell (lt_of_cell (w := W1.drew) d6)).trans d6, (hb.cell (lt_of_cell (w := W1.drew) e0)).trans e0, (hb.cell (lt_of_cell (w := W1.drew) e1)).trans e1, (hb.cell (lt_of_cell (w := W1.drew) e2)).trans e2⟩
              have cS : Hid (∀ W, Below wr.heap.size wr W → Calls Tryd.prog 16 #[.slice ps ls cs, .slice p j cc] W fun r w' => r = .returned (.bool true) ∧ Below W.heap.size W w') := fun W hW => HSA.out W hW
              have hz1 : wr.heap.size ≤ W1.drew.heap.size := b1.size
              have hb1d : Below wr.heap.size wr W1.drew := b1.drew
              go_upto_region 24 with fail
              rw [← hW1]
              clear hW1
              go_region_held3 (fun w' => (w'.cell? ⟨wr.heap.size, 0, none⟩ = some (.int .i64 2) ∧ w'.cell? ⟨wr.heap.size, 1, none⟩ = some (.string t) ∧ w'.cell? ⟨wr.heap.size, 2, none⟩ = some (.int .i64 1) ∧ w'.cell? ⟨wr.heap.size, 3, none⟩ = some (.int .i64 1) ∧ w'.cell? ⟨wr.heap.size, 4, none⟩ = some (.string ⟨#[]⟩) ∧ w'.cell? ⟨wr.heap.size, 5, none⟩ = some (.int .i64 cc1) ∧ w'.cell? ⟨wr.heap.size, 6, none⟩ = some (.slice p j cc) ∧ w'.cell? ⟨wr.heap.size + 1, 0, none⟩ = some (.slice ps ls cs) ∧ w'.cell? ⟨wr.heap.size + 1, 1, none⟩ = some (.string t) ∧ w'.cell? ⟨wr.heap.size + 1, 2, none⟩ = some (.iface 115 (.bool true))) ∧ Below wr.heap.size wr w')
                (exact ⟨by first | (with_reducible assumption) | (simp [*]; done), by first | (with_reducible assumption) | exact hb1d⟩)
                (first
                | (go_at_call 16; refine (cS.out _ ?_).mono ?_; (· first | assumption | (apply And.right; assumption)); rintro r wC ⟨rfl, bC'⟩; have bC : Below W1.drew.heap.size W1.drew wC := bB.trans (bC'.mono bB.size); have jC : Below wr.heap.size wr wC := hb1d.trans (bC.mono hz1); have mmC := HU.out _ bC)
                | (go_at_call 98; refine (plain_f true _).mono ?_; rintro r wB ⟨rfl, bB⟩; have jB : Below wr.heap.size wr wB := hb1d.trans (bB.mono hz1); have mmB := HU.out _ bB))
              clear d0 d1 d2 d3 d4 d5 d6 e0 e1 e2 bB mmB jB bC cS 
              obtain ⟨d0, d1, d2, d3, d4, d5, d6, e0, e1, e2⟩ := mmC
              obtain ⟨LL, HH, hli, hex⟩ := HLI.out
              have cV := overAttrs_any _ _ LL HH wC (hli wC jC) hAl
              have d0s := HNE.out wC d0
              clear hli
              go_wp2_with fail
              refine cV.mono ?_; rintro r wE ⟨rfl, hO⟩
              obtain ⟨y1, y2, y3, y4⟩ := HST.out wC wE LL HH jC hO hex
              have q0 : wE.cell? ⟨wr.heap.size, 0, none⟩ = some (.int .i64 2) := by
                have h1 : wE.heap[wr.heap.size]? = wC.heap[wr.heap.size]? := hO.block _ (lt_of_cell d0) (by
                  by_cases h2 : LL ≤ wr.heap.size ∧ wr.heap.size < HH
                  · exact absurd (hex _ h2.1 h2.2) d0s
                  · omega)
                exact (World.cell?_of_block (a := ⟨wr.heap.size, 0, none⟩) h1).trans d0
              rw [HK.out] at y1
              have HF : Hid (∀ u, KTy w5 P6 C Z (some ⟨ga, 0, none⟩) (m + 1) (wE.setCell ⟨ga, m, none⟩ u)) := y4
              clear cV hO hex y3 y4 d0 d1 d2 d3 d4 d5 d6 e0 e1 e2 d0s
              go_wp2
              go_roundw
              case rel => exact ⟨m + 1, by omega, by go_num, HF.out _⟩
              case measure => simp [RowKit.intOf]; omega
            · skip
              have hvv : valP (2, z, ⟨#[]⟩) = .iface 116 (.int .i64 z) := by rfl
              rw [hvv] at cp HK HST
              clear hvv hval
              obtain ⟨W1, hW1⟩ : ∃ W, W = (wr.alloc (.cells #[.int .i64 2, .string t, .int .i64 2, .int .i64 z, .string ⟨#[]⟩, .int .i64 cc1, .slice p j cc] 33)).alloc (.cells #[.slice ps ls cs, .string t, .iface 116 (.int .i64 z)] 60) := ⟨_, rfl⟩
              have b1 : Below wr.heap.size wr W1 := by rw [hW1]; exact ((Below.refl _ _).alloc (Nat.le_refl _) _).alloc (by simp) _
              have d0 : W1.cell? ⟨wr.heap.size, 0, none⟩ = some (.int .i64 2) := by rw [hW1]; simp
              have d1 : W1.cell? ⟨wr.heap.size, 1, none⟩ = some (.string t) := by rw [hW1]; simp
              have d2 : W1.cell? ⟨wr.heap.size, 2, none⟩ = some (.int .i64 2) := by rw [hW1]; simp
              have d3 : W1.cell? ⟨wr.heap.size, 3, none⟩ = some (.int .i64 z) := by rw [hW1]; simp
              have d4 : W1.cell? ⟨wr.heap.size, 4, none⟩ = some (.string ⟨#[]⟩) := by rw [hW1]; simp
              have d5 : W1.cell? ⟨wr.heap.size, 5, none⟩ = some (.int .i64 cc1) := by rw [hW1]; simp
              have d6 : W1.cell? ⟨wr.heap.size, 6, none⟩ = some (.slice p j cc) := by rw [hW1]; simp
              have e0 : W1.cell? ⟨wr.heap.size + 1, 0, none⟩ = some (.slice ps ls cs) := by rw [hW1]; simp
              have e1 : W1.cell? ⟨wr.heap.size + 1, 1, none⟩ = some (.string t) := by rw [hW1]; simp
              have e2 : W1.cell? ⟨wr.heap.size + 1, 2, none⟩ = some (.iface 116 (.int .i64 z)) := by rw [hW1]; simp
              have HU : Hid (∀ w', Below W1.drew.heap.size W1.drew w' → (w'.cell? ⟨wr.heap.size, 0, none⟩ = some (.int .i64 2) ∧ w'.cell? ⟨wr.heap.size, 1, none⟩ = some (.string t) ∧ w'.cell? ⟨wr.heap.size, 2, none⟩ = some (.int .i64 2) ∧ w'.cell? ⟨wr.heap.size, 3, none⟩ = some (.int .i64 z) ∧ w'.cell? ⟨wr.heap.size, 4, none⟩ = some (.string ⟨#[]⟩) ∧ w'.cell? ⟨wr.heap.size, 5, none⟩ = some (.int .i64 cc1) ∧ w'.cell? ⟨wr.heap.size, 6, none⟩ = some (.slice p j cc) ∧ w'.cell? ⟨wr.heap.size + 1, 0, none⟩ = some (.slice ps ls cs) ∧ w'.cell? ⟨wr.heap.size + 1, 1, none⟩ = some (.string t) ∧ w'.cell? ⟨wr.heap.size + 1, 2, none⟩ = some (.iface 116 (.int .i64 z)))) := fun w' hb => ⟨(hb.cell (lt_of_cell (w := W1.drew) d0)).trans d0, (hb.cell (lt_of_cell (w := W1.drew) d1)).trans d1, (hb.cell (lt_of_cell (w := W1.drew) d2)).trans d2, (hb.cell (lt_of_cell (w := W1.drew) d3)).trans d3, (hb.cell (lt_of_cell (w := W1.drew) d4)).trans d4, (hb.cell (lt_of_cell (w := W1.drew) d5)).trans d5, (hb.cell (lt_of_cell (w := W1.drew) d6)).trans d6, (hb.cell (lt_of_cell (w := W1.drew) e0)).trans e0, (hb.cell (lt_of_cell (w := W1.drew) e1)).trans e1, (hb.cell (lt_of_cell (w := W1.drew) e2)).trans e2⟩
              have cS : Hid (∀ W, Below wr.heap.size wr W → Calls Tryd.prog 16 #[.slice ps ls cs, .slice p j cc] W fun r w' => r = .returned (.bool true) ∧ Below W.heap.size W w') := fun W hW => HSA.out W hW
              have hz1 : wr.heap.size ≤ W1.drew.heap.size := b1.size
              have hb1d : Below wr.heap.size wr W1.drew := b1.drew
              go_upto_region 24 with fail
              rw [← hW1]
              clear hW1
              go_region_held3 (fun w' => (w'.cell? ⟨wr.heap.size, 0, none⟩ = some (.int .i64 2) ∧ w'.cell? ⟨wr.heap.size, 1, none⟩ = some (.string t) ∧ w'.cell? ⟨wr.heap.size, 2, none⟩ = some (.int .i64 2) ∧ w'.cell? ⟨wr.heap.size, 3, none⟩ = some (.int .i64 z) ∧ w'.cell? ⟨wr.heap.size, 4, none⟩ = some (.string ⟨#[]⟩) ∧ w'.cell? ⟨wr.heap.size, 5, none⟩ = some (.int .i64 cc1) ∧ w'.cell? ⟨wr.heap.size, 6, none⟩ = some (.slice p j cc) ∧ w'.cell? ⟨wr.heap.size + 1, 0, none⟩ = some (.slice ps ls cs) ∧ w'.cell? ⟨wr.heap.size + 1, 1, none⟩ = some (.string t) ∧ w'.cell? ⟨wr.heap.size + 1, 2, none⟩ = some (.iface 116 (.int .i64 z))) ∧ Below wr.heap.size wr w')
                (exact ⟨by first | (with_reducible assumption) | (simp [*]; done), by first | (with_reducible assumption) | exact hb1d⟩)
                (first
                | (go_at_call 16; refine (cS.out _ ?_).mono ?_; (· first | assumption | (apply And.right; assumption)); rintro r wC ⟨rfl, bC'⟩; have bC : Below W1.drew.heap.size W1.drew wC := bB.trans (bC'.mono bB.size); have jC : Below wr.heap.size wr wC := hb1d.trans (bC.mono hz1); have mmC := HU.out _ bC)
                | (go_at_call 100; refine (plain_d z _).mono ?_; rintro r wB ⟨rfl, bB⟩; have jB : Below wr.heap.size wr wB := hb1d.trans (bB.mono hz1); have mmB := HU.out _ bB))
              clear d0 d1 d2 d3 d4 d5 d6 e0 e1 e2 bB mmB jB bC cS 
              obtain ⟨d0, d1, d2, d3, d4, d5, d6, e0, e1, e2⟩ := mmC
              obtain ⟨LL, HH, hli, hex⟩ := HLI.out
              have cV := overAttrs_any _ _ LL HH wC (hli wC jC) hAl
              have d0s := HNE.out wC d0
              clear hli
              go_wp2_with fail
              refine cV.mono ?_; rintro r wE ⟨rfl, hO⟩
              obtain ⟨y1, y2, y3, y4⟩ := HST.out wC wE LL HH jC hO hex
              have q0 : wE.cell? ⟨wr.heap.size, 0, none⟩ = some (.int .i64 2) := by
                have h1 : wE.heap[wr.heap.size]? = wC.heap[wr.heap.size]? := hO.block _ (lt_of_cell d0) (by
                  by_cases h2 : LL ≤ wr.heap.size ∧ wr.heap.size < HH
                  · exact absurd (hex _ h2.1 h2.2) d0s
                  · omega)
                exact (World.cell?_of_block (a := ⟨wr.heap.size, 0, none⟩) h1).trans d0
              rw [HK.out] at y1
              have HF : Hid (∀ u, KTy w5 P6 C Z (some ⟨ga, 0, none⟩) (m + 1) (wE.setCell ⟨ga, m, none⟩ u)) := y4
              clear cV hO hex y3 y4 d0 d1 d2 d3 d4 d5 d6 e0 e1 e2 d0s
              go_wp2
              go_roundw
              case rel => exact ⟨m + 1, by omega, by go_num, HF.out _⟩
              case measure => simp [RowKit.intOf]; omega
            · skip
              have hvv : valP (3, 0, u) = .iface 117 (.string u) := by rfl
              rw [hvv] at cp HK HST
              clear hvv hval
              obtain ⟨W1, hW1⟩ : ∃ W, W = (wr.alloc (.cells #[.int .i64 2, .string t, .int .i64 3, .int .i64 0, .string u, .int .i64 cc1, .slice p j cc] 33)).alloc (.cells #[.slice ps ls cs, .string t, .iface 117 (.string u)] 60) := ⟨_, rfl⟩
              have b1 : Below wr.heap.size wr W1 := by rw [hW1]; exact ((Below.refl _ _).alloc (Nat.le_refl _) _).alloc (by simp) _
              have d0 : W1.cell? ⟨wr.heap.size, 0, none⟩ = some (.int .i64 2) := by rw [hW1]; simp
              have d1 : W1.cell? ⟨wr.heap.size, 1, none⟩ = some (.string t) := by rw [hW1]; simp
              have d2 : W1.cell? ⟨wr.heap.size, 2, none⟩ = some (.int .i64 3) := by rw [hW1]; simp
              have d3 : W1.cell? ⟨wr.heap.size, 3, none⟩ = some (.int .i64 0) := by rw [hW1]; simp
              have d4 : W1.cell? ⟨wr.heap.size, 4, none⟩ = some (.string u) := by rw [hW1]; simp
              have d5 : W1.cell? ⟨wr.heap.size, 5, none⟩ = some (.int .i64 cc1) := by rw [hW1]; simp
              have d6 : W1.cell? ⟨wr.heap.size, 6, none⟩ = some (.slice p j cc) := by rw [hW1]; simp
              have e0 : W1.cell? ⟨wr.heap.size + 1, 0, none⟩ = some (.slice ps ls cs) := by rw [hW1]; simp
              have e1 : W1.cell? ⟨wr.heap.size + 1, 1, none⟩ = some (.string t) := by rw [hW1]; simp
              have e2 : W1.cell? ⟨wr.heap.size + 1, 2, none⟩ = some (.iface 117 (.string u)) := by rw [hW1]; simp
              have HU : Hid (∀ w', Below W1.drew.heap.size W1.drew w' → (w'.cell? ⟨wr.heap.size, 0, none⟩ = some (.int .i64 2) ∧ w'.cell? ⟨wr.heap.size, 1, none⟩ = some (.string t) ∧ w'.cell? ⟨wr.heap.size, 2, none⟩ = some (.int .i64 3) ∧ w'.cell? ⟨wr.heap.size, 3, none⟩ = some (.int .i64 0) ∧ w'.cell? ⟨wr.heap.size, 4, none⟩ = some (.string u) ∧ w'.cell? ⟨wr.heap.size, 5, none⟩ = some (.int .i64 cc1) ∧ w'.cell? ⟨wr.heap.size, 6, none⟩ = some (.slice p j cc) ∧ w'.cell? ⟨wr.heap.size + 1, 0, none⟩ = some (.slice ps ls cs) ∧ w'.cell? ⟨wr.heap.size + 1, 1, none⟩ = some (.string t) ∧ w'.cell? ⟨wr.heap.size + 1, 2, none⟩ = some (.iface 117 (.string u)))) := fun w' hb => ⟨(hb.cell (lt_of_cell (w := W1.drew) d0)).trans d0, (hb.cell (lt_of_cell (w := W1.drew) d1)).trans d1, (hb.cell (lt_of_cell (w := W1.drew) d2)).trans d2, (hb.cell (lt_of_cell (w := W1.drew) d3)).trans d3, (hb.cell (lt_of_cell (w := W1.drew) d4)).trans d4, (hb.cell (lt_of_cell (w := W1.drew) d5)).trans d5, (hb.cell (lt_of_cell (w := W1.drew) d6)).trans d6, (hb.cell (lt_of_cell (w := W1.drew) e0)).trans e0, (hb.cell (lt_of_cell (w := W1.drew) e1)).trans e1, (hb.cell (lt_of_cell (w := W1.drew) e2)).trans e2⟩
              have cS : Hid (∀ W, Below wr.heap.size wr W → Calls Tryd.prog 16 #[.slice ps ls cs, .slice p j cc] W fun r w' => r = .returned (.bool true) ∧ Below W.heap.size W w') := fun W hW => HSA.out W hW
              have hz1 : wr.heap.size ≤ W1.drew.heap.size := b1.size
              have hb1d : Below wr.heap.size wr W1.drew := b1.drew
              go_upto_region 24 with fail
              rw [← hW1]
              clear hW1
              go_region_held3 (fun w' => (w'.cell? ⟨wr.heap.size, 0, none⟩ = some (.int .i64 2) ∧ w'.cell? ⟨wr.heap.size, 1, none⟩ = some (.string t) ∧ w'.cell? ⟨wr.heap.size, 2, none⟩ = some (.int .i64 3) ∧ w'.cell? ⟨wr.heap.size, 3, none⟩ = some (.int .i64 0) ∧ w'.cell? ⟨wr.heap.size, 4, none⟩ = some (.string u) ∧ w'.cell? ⟨wr.heap.size, 5, none⟩ = some (.int .i64 cc1) ∧ w'.cell? ⟨wr.heap.size, 6, none⟩ = some (.slice p j cc) ∧ w'.cell? ⟨wr.heap.size + 1, 0, none⟩ = some (.slice ps ls cs) ∧ w'.cell? ⟨wr.heap.size + 1, 1, none⟩ = some (.string t) ∧ w'.cell? ⟨wr.heap.size + 1, 2, none⟩ = some (.iface 117 (.string u))) ∧ Below wr.heap.size wr w')
                (exact ⟨by first | (with_reducible assumption) | (simp [*]; done), by first | (with_reducible assumption) | exact hb1d⟩)
                (first
                | (go_at_call 16; refine (cS.out _ ?_).mono ?_; (· first | assumption | (apply And.right; assumption)); rintro r wC ⟨rfl, bC'⟩; have bC : Below W1.drew.heap.size W1.drew wC := bB.trans (bC'.mono bB.size); have jC : Below wr.heap.size wr wC := hb1d.trans (bC.mono hz1); have mmC := HU.out _ bC)
                | (go_at_call 102; refine (plain_t u _).mono ?_; rintro r wB ⟨rfl, bB⟩; have jB : Below wr.heap.size wr wB := hb1d.trans (bB.mono hz1); have mmB := HU.out _ bB))
              clear d0 d1 d2 d3 d4 d5 d6 e0 e1 e2 bB mmB jB bC cS 
              obtain ⟨d0, d1, d2, d3, d4, d5, d6, e0, e1, e2⟩ := mmC
              obtain ⟨LL, HH, hli, hex⟩ := HLI.out
              have cV := overAttrs_any _ _ LL HH wC (hli wC jC) hAl
              have d0s := HNE.out wC d0
              clear hli
              go_wp2_with fail
              refine cV.mono ?_; rintro r wE ⟨rfl, hO⟩
              obtain ⟨y1, y2, y3, y4⟩ := HST.out wC wE LL HH jC hO hex
              have q0 : wE.cell? ⟨wr.heap.size, 0, none⟩ = some (.int .i64 2) := by
                have h1 : wE.heap[wr.heap.size]? = wC.heap[wr.heap.size]? := hO.block _ (lt_of_cell d0) (by
                  by_cases h2 : LL ≤ wr.heap.size ∧ wr.heap.size < HH
                  · exact absurd (hex _ h2.1 h2.2) d0s
                  · omega)
                exact (World.cell?_of_block (a := ⟨wr.heap.size, 0, none⟩) h1).trans d0
              rw [HK.out] at y1
              have HF : Hid (∀ u, KTy w5 P6 C Z (some ⟨ga, 0, none⟩) (m + 1) (wE.setCell ⟨ga, m, none⟩ u)) := y4
              clear cV hO hex y3 y4 d0 d1 d2 d3 d4 d5 d6 e0 e1 e2 d0s
              go_wp2
              go_roundw
              case rel => exact ⟨m + 1, by omega, by go_num, HF.out _⟩
              case measure => simp [RowKit.intOf]; omega
          · simp only at h
            subst h
            rw [pieceQ_3 rfl] at cp HK HST
            simp only at cp HK HST
            have as1 := as_r_i
            have as2 := as_r_e6
            have as3 := as_r_r
            clear hgg HL6
            obtain ⟨W1, hW1⟩ : ∃ W, W = (wr.alloc (.cells #[.int .i64 3, .string t, .int .i64 x, .int .i64 z, .string u, .int .i64 cc1, .slice p j cc] 33)).alloc (.cells #[.slice ps ls cs, .int .i64 cc1] 63) := ⟨_, rfl⟩
            have b1 : Below wr.heap.size wr W1 := by rw [hW1]; exact ((Below.refl _ _).alloc (Nat.le_refl _) _).alloc (by simp) _
            have d0 : W1.cell? ⟨wr.heap.size, 0, none⟩ = some (.int .i64 3) := by rw [hW1]; simp
            have d1 : W1.cell? ⟨wr.heap.size, 1, none⟩ = some (.string t) := by rw [hW1]; simp
            have d2 : W1.cell? ⟨wr.heap.size, 2, none⟩ = some (.int .i64 x) := by rw [hW1]; simp
            have d3 : W1.cell? ⟨wr.heap.size, 3, none⟩ = some (.int .i64 z) := by rw [hW1]; simp
            have d4 : W1.cell? ⟨wr.heap.size, 4, none⟩ = some (.string u) := by rw [hW1]; simp
            have d5 : W1.cell? ⟨wr.heap.size, 5, none⟩ = some (.int .i64 cc1) := by rw [hW1]; simp
            have d6 : W1.cell? ⟨wr.heap.size, 6, none⟩ = some (.slice p j cc) := by rw [hW1]; simp
            have e0 : W1.cell? ⟨wr.heap.size + 1, 0, none⟩ = some (.slice ps ls cs) := by rw [hW1]; simp
            have e1 : W1.cell? ⟨wr.heap.size + 1, 1, none⟩ = some (.int .i64 cc1) := by rw [hW1]; simp
            have HU : Hid (∀ w', Below W1.heap.size W1 w' → (w'.cell? ⟨wr.heap.size, 0, none⟩ = some (.int .i64 3) ∧ w'.cell? ⟨wr.heap.size, 1, none⟩ = some (.string t) ∧ w'.cell? ⟨wr.heap.size, 2, none⟩ = some (.int .i64 x) ∧ w'.cell? ⟨wr.heap.size, 3, none⟩ = some (.int .i64 z) ∧ w'.cell? ⟨wr.heap.size, 4, none⟩ = some (.string u) ∧ w'.cell? ⟨wr.heap.size, 5, none⟩ = some (.int .i64 cc1) ∧ w'.cell? ⟨wr.heap.size, 6, none⟩ = some (.slice p j cc) ∧ w'.cell? ⟨wr.heap.size + 1, 0, none⟩ = some (.slice ps ls cs) ∧ w'.cell? ⟨wr.heap.size + 1, 1, none⟩ = some (.int .i64 cc1))) := fun w' hb => ⟨(hb.cell (lt_of_cell d0)).trans d0, (hb.cell (lt_of_cell d1)).trans d1, (hb.cell (lt_of_cell d2)).trans d2, (hb.cell (lt_of_cell d3)).trans d3, (hb.cell (lt_of_cell d4)).trans d4, (hb.cell (lt_of_cell d5)).trans d5, (hb.cell (lt_of_cell d6)).trans d6, (hb.cell (lt_of_cell e0)).trans e0, (hb.cell (lt_of_cell e1)).trans e1⟩
            have cS : Hid (∀ W, Below wr.heap.size wr W → Calls Tryd.prog 16 #[.slice ps ls cs, .slice p j cc] W fun r w' => r = .returned (.bool true) ∧ Below W.heap.size W w') := fun W hW => HSA.out W hW
            have hz1 : wr.heap.size ≤ W1.heap.size := b1.size
            have hb1d : Below wr.heap.size wr W1 := b1
            go_upto_region 29 with fail
            rw [← hW1]
            clear hW1
            go_wp2_with fail
            refine (cS.out _ hb1d).mono ?_; rintro r wC ⟨rfl, bC⟩
            have jC : Below wr.heap.size wr wC := hb1d.trans (bC.mono hz1)
            have mmC := HU.out _ bC
            clear d0 d1 d2 d3 d4 d5 d6 e0 e1  bC cS 
            obtain ⟨d0, d1, d2, d3, d4, d5, d6, e0, e1⟩ := mmC
            obtain ⟨LL, HH, hli, hex⟩ := HLI.out
            have cV := overAttrs_any _ _ LL HH wC (hli wC jC) hAl
            have d0s := HNE.out wC d0
            clear hli
            go_wp2_with fail
            refine cV.mono ?_; rintro r wE ⟨rfl, hO⟩
            obtain ⟨y1, y2, y3, y4⟩ := HST.out wC wE LL HH jC hO hex
            have q0 : wE.cell? ⟨wr.heap.size, 0, none⟩ = some (.int .i64 3) := by
              have h1 : wE.heap[wr.heap.size]? = wC.heap[wr.heap.size]? := hO.block _ (lt_of_cell d0) (by
                by_cases h2 : LL ≤ wr.heap.size ∧ wr.heap.size < HH
                · exact absurd (hex _ h2.1 h2.2) d0s
                · omega)
              exact (World.cell?_of_block (a := ⟨wr.heap.size, 0, none⟩) h1).trans d0
            rw [HK.out] at y1
            have HF : Hid (∀ u, KTy w5 P6 C Z (some ⟨ga, 0, none⟩) (m + 1) (wE.setCell ⟨ga, m, none⟩ u)) := y4
            clear cV hO hex y3 y4 d0 d1 d2 d3 d4 d5 d6 e0 e1 d0s
            go_wp2
            go_roundw
            case rel => exact ⟨m + 1, by omega, by go_num, HF.out _⟩
            case measure => simp [RowKit.intOf]; omega
          · simp only at h
            subst h
            rw [pieceQ_4 rfl] at cp HK HST
            simp only at cp HK HST
            have as1 := as_d_i
            have as2 := as_d_e6
            have as3 := as_d_r
            have as4 := as_d_d
            clear hgg HL6
            obtain ⟨W1, hW1⟩ : ∃ W, W = (wr.alloc (.cells #[.int .i64 4, .string t, .int .i64 x, .int .i64 z, .string u, .int .i64 cc1, .slice p j cc] 33)).alloc (.cells #[.int .i64 cc1] 65) := ⟨_, rfl⟩
            have b1 : Below wr.heap.size wr W1 := by rw [hW1]; exact ((Below.refl _ _).alloc (Nat.le_refl _) _).alloc (by simp) _
            have d0 : W1.cell? ⟨wr.heap.size, 0, none⟩ = some (.int .i64 4) := by rw [hW1]; simp
            have d1 : W1.cell? ⟨wr.heap.size, 1, none⟩ = some (.string t) := by rw [hW1]; simp
            have d2 : W1.cell? ⟨wr.heap.size, 2, none⟩ = some (.int .i64 x) := by rw [hW1]; simp
            have d3 : W1.cell? ⟨wr.heap.size, 3, none⟩ = some (.int .i64 z) := by rw [hW1]; simp
            have d4 : W1.cell? ⟨wr.heap.size, 4, none⟩ = some (.string u) := by rw [hW1]; simp
            have d5 : W1.cell? ⟨wr.heap.size, 5, none⟩ = some (.int .i64 cc1) := by rw [hW1]; simp
            have d6 : W1.cell? ⟨wr.heap.size, 6, none⟩ = some (.slice p j cc) := by rw [hW1]; simp
            have e0 : W1.cell? ⟨wr.heap.size + 1, 0, none⟩ = some (.int .i64 cc1) := by rw [hW1]; simp
            obtain ⟨y1, y2, y3, y4⟩ := HST.out W1 W1 0 0 b1 (Out.refl _ _ _) (fun j a b => by omega)
            rw [HK.out] at y1
            have HF : Hid (∀ u, KTy w5 P6 C Z (some ⟨ga, 0, none⟩) (m + 1) (W1.setCell ⟨ga, m, none⟩ u)) := y4
            go_upto_region 34 with fail
            rw [← hW1]
            clear hW1 y3 y4
            go_wp2
            go_roundw
            case rel => exact ⟨m + 1, by omega, by go_num, HF.out _⟩
            case measure => simp [RowKit.intOf]; omega
        · have hltI : ¬ (m : Int) < n := by omega
          have cI := is_any (.pointer (some ⟨qd, 0, none⟩)) (.slice p1 n q1) C C wr (HD5.out.1.below hK.below) HD5.out.2.good (HD5.out.2.okR (by rw [HN.out]; omega)) (HC5.out.1.below hK.below).re (HD5.out.2.okR (by rw [HN.out]; omega))
          rw [decide_eq_true rfl] at cI
          have b9 := HC5.out.2.trans (hK.below.mono HC5.out.2.size)
          clear hK
          go_wp2_with fail
          refine cI.mono ?_; rintro r w9 ⟨rfl, hb9⟩
          have b10 := b9.trans (hb9.mono b9.size)
          clear cI hb9 b9
          go_wp2
          go_ret
          exact ⟨rfl, b10⟩
end Go.Proofs.YtfllomfjhkgaoaaDoor
