/- What attrs.join answers, whatever its chooser. -/
import Derived.Test.YtplnojapnaaakaaGreatDoorPCk
import Derived.BigRegion
import Derived.BigQuiet
namespace Go.Proofs.YtplnojapnaaakaaGreatDoor
open Go Go.RowKit Go.Lib
set_option linter.unusedVariables false
abbrev enV (ia ib : Bool) (p q : P3) : Value := .agg #[.bool ia, .bool ib, .int .i64 p.1, .int .i64 p.2.1, .string p.2.2, .int .i64 q.1, .int .i64 q.2.1, .string q.2.2]
abbrev big : Nat := 281474976710656
/-- What join asks of its chooser: it answers as ch does, one of the two values. -/
structure Chooses (ch : Ch) (g : Nat) (lb : Array Value) (w : World) : Prop where
  ans : ∀ (W : World) (ia ib : Bool) (p q : P3), Below w.heap.size w W → Calls Tryz.prog g (#[enV ia ib p q] ++ lb) W fun e w' => e = .returned (.tuple #[plV (ch ia ib p q).1, .bool (ch ia ib p q).2]) ∧ Below W.heap.size W w'
  one : ∀ (ia ib : Bool) (p q : P3), (ch ia ib p q).1 = p ∨ (ch ia ib p q).1 = q
def lenV : Value → Nat
  | .slice _ n _ => n
  | _ => 0
def Small (L : List A2) : Prop := ∀ q ∈ L, q.1.size ≤ big ∧ q.2.2.2.size ≤ big
theorem small_tail {q : A2} {L : List A2} (h : Small (q :: L)) : Small L := fun x hx => h x (List.mem_cons_of_mem _ hx)
theorem rest_row {w : World} {b off n c : Nat} {L : List A2} (hn : L.length = n) (hc : n ≤ c) (h : ∀ (j : Nat) (x : A2), L[j]? = some x → PairAt w b (off + 4 + j * 4) x) : RowA w (.slice (some ⟨b, off + 4, none⟩) n c) L :=
  ⟨some ⟨b, off + 4, none⟩, c, by rw [hn], by omega, fun j x hx => ⟨b, off + 4, rfl, h j x hx⟩⟩
theorem rest_row0 {w : World} {p : Option Addr} {n c : Nat} {L : List A2} (hn : L.length = n) (h0 : n = 0) : RowA w (.slice p n c) L := by
  have : L = [] := List.eq_nil_of_length_eq_zero (by omega)
  subst this
  subst h0
  exact RowA.nil _ _ _
theorem put_fOf (ch : Ch) (k : ByteArray) (x y : Option P3) (v : P3) (t : Bool) (h : ch x.isSome y.isSome (x.getD z0) (y.getD z0) = (v, t)) : putO k (fOf ch x y) = if t then [(k, v)] else [] := by
  unfold fOf
  rw [h]
  cases t <;> rfl

set_option maxHeartbeats 4000000 in
set_option maxRecDepth 1000000 in
theorem join_gen (ch : Ch) (g : Nat) (lb : Array Value) (eg : ∀ args w, (callFunc g args).run Tryz.prog w = .ok (.enter g args) w) (va vb : Value) (A B : List A2) (w : World)
    (hA : RowA w va A) (hB : RowA w vb B) (sA : Small A) (sB : Small B) (hl : A.length + B.length ≤ 1048576) (hch : Chooses ch g lb w) :
    Calls Tryz.prog 157 #[va, vb, .func (.func g) #[] lb] w fun r w' => ∃ v', r = .returned v' ∧ w'.ownsRow w.heap.size 154 4 v' (jn ch A B).length (cellsA (jn ch A B)) ∧ Below w.heap.size w w' := by
  have HC : Hid _ := hch
  have HA : Hid (RowA w va A) := hA
  have HB : Hid (RowA w vb B) := hB
  have H0 : Hid (Small A ∧ Small B ∧ A.length + B.length ≤ 1048576) := ⟨sA, sB, hl⟩
  obtain ⟨pa, ca, rfl, hca⟩ := hA.val
  obtain ⟨pb, cb, rfl, hcb⟩ := hB.val
  clear hch hA hB sA sB hl
  go_enter Tryz.func157, Tryz.ntmps157
  go_wp2
  go_loopw [0, 1, 7] (fun sa sb l wr => ∃ (As Bs Os : List A2), RowA w sa As ∧ RowA w sb Bs ∧ wr.ownsRow w.heap.size 154 4 l Os.length (cellsA Os) ∧ Below w.heap.size w wr ∧ Hid (jn ch A B = Os ++ jn ch As Bs ∧ As.length + Bs.length + Os.length ≤ 1048576 ∧ Small As ∧ Small Bs)) (fun sa sb _ _ => lenV sa + lenV sb)
  case atStart => exact ⟨A, B, [], HA.out, HB.out, World.ownsRow_nil _ _ _ _, Below.refl _ _, by simp, by simpa using H0.out.2.2, H0.out.1, H0.out.2.1⟩
  case round =>
    obtain ⟨As, Bs, Os, ra, rb, ho, hbw, H⟩ := hrel
    clear HA HB H0 hca hcb
    cases As with
    | nil =>
      obtain ⟨p1, c1, rfl, h1⟩ := ra.val
      cases Bs with
      | nil =>
        obtain ⟨p2, c2, rfl, h2⟩ := rb.val
        have HO : Hid (wr.ownsRow w.heap.size 154 4 u7 (jn ch A B).length (cellsA (jn ch A B))) := by
          have e : jn ch A B = Os := by rw [H.out.1, jn, joinL, List.append_nil]
          rw [e]; exact ho
        clear ho H ra rb h1 h2
        simp only [List.length_nil] at *
        go_wp2
        go_ret
        exact ⟨_, rfl, HO.out, hbw⟩
      | cons y Bs =>
        obtain ⟨b', off', c2, rfl, h2, py, pr2⟩ := rb.cons
        have py' := py.below hbw
        obtain ⟨k', y1, y2, y3⟩ := y
        obtain ⟨e0, e1, e2, e3⟩ := py'
        simp only at e0 e1 e2 e3
        have hk' := (H.out.2.2.2 _ (List.mem_cons_self ..)).1
        have hy3 := (H.out.2.2.2 _ (List.mem_cons_self ..)).2
        simp only at hk' hy3
        have HR2 : Hid (∀ (j : Nat) (x : A2), Bs[j]? = some x → PairAt w b' (off' + 4 + j * 4) x) := pr2
        clear pr2 py
        have hbl' : b' < wr.heap.size := lt_of_cell e0
        have hb1' : ¬ b' = wr.heap.size := by omega
        have hb2' : ¬ wr.heap.size = b' := by omega
        obtain ⟨n', hn'⟩ : ∃ n, Bs.length = n := ⟨_, rfl⟩
        rw [hn'] at h2 ⊢
        have Hn' : Hid (Bs.length = n') := hn'
        clear hn'
        have g1' : (0 : Int) < ((n' + 1 : Nat) : Int) := by omega
        have hz1' : ((n' : Int) + 1 == 0) = false := by simp; omega
        have hz2' : (1 : Int) ≤ (n' : Int) + 1 := by omega
        have hz3' : (0 : Int) < (n' : Int) + 1 := by omega
        have hz4' : (n' : Int) + 1 ≤ (c2 : Int) := by omega

        simp only [List.length_nil]
        have hx3 : True := trivial
        have HO : Hid _ := ho
        have HA0 : Hid (RowA w _ []) := ra
        clear ra ho
        by_cases hc2 : c2 = 1
        · subst hc2
          have HQ : Hid (jn ch [] ((k', y1, y2, y3) :: Bs) = putO k' (fOf ch none (some (y1, y2, y3))) ++ jn ch [] Bs) := (show jn ch [] ((k', y1, y2, y3) :: Bs) = putO k' (fOf ch none (some (y1, y2, y3))) ++ jn ch [] Bs by rw [jn, joinL])
          go_wp2_with fail
          go_region
          go_wp2_with fail
          go_region
          go_wp2_with fail
          go_region
          go_wp2_with fail

          obtain ⟨W1, hW1⟩ : ∃ W1, W1 = (wr.alloc (.cells #[.bool false, .bool true, .int .i64 0, .int .i64 0, .string ⟨#[]⟩, .int .i64 y1, .int .i64 y2, .string y3] 216)).drew.drew.drew := ⟨_, rfl⟩
          have bW1 : Below w.heap.size w W1 := by rw [hW1]; exact below_drewN (hbw.alloc hbw.size _) 3
          have oW1 : Hid (W1.ownsRow w.heap.size 154 4 u7 Os.length (cellsA Os)) := by
            show World.ownsRow _ _ _ _ _ _ _
            rw [hW1]; exact owns_below HO.out (below_drewN ((Below.refl _ _).alloc (Nat.le_refl _) _) 3)
          rw [← hW1]
          clear hW1
          obtain ⟨⟨⟨v1, v2, v3⟩, tk⟩, hR⟩ : ∃ R : P3 × Bool, ch false true z0 (y1, y2, y3) = R := ⟨_, rfl⟩
          have cG := HC.out.ans W1 false true z0 (y1, y2, y3) bW1
          have cz := HC.out.one false true z0 (y1, y2, y3)
          rw [hR] at cG cz
          simp only at cG cz
          have hv3 : v3.size ≤ big := by
            rcases cz with h | h <;> (have h3 := congrArg (fun p : P3 => p.2.2) h; simp only at h3; rw [h3]; first | exact hx3 | exact hy3 | exact Nat.zero_le _)
          have HE : Hid (jn ch A B = (Os ++ (if tk then [(k', (v1, v2, v3))] else [])) ++ jn ch ([] : List A2) Bs) := by
            show _ = _
            rw [H.out.1, HQ.out, put_fOf ch _ none (some (y1, y2, y3)) (v1, v2, v3) tk hR, List.append_assoc]
          have HL : Hid (([] : List A2).length + Bs.length + Os.length + 1 ≤ 1048576) := by show _ ≤ _; have := H.out.2.1; simp at this ⊢; omega
          have HSm : Hid (Small ([] : List A2) ∧ Small Bs) := ⟨by first | exact H.out.2.2.1 | exact small_tail H.out.2.2.1, by first | exact H.out.2.2.2 | exact small_tail H.out.2.2.2⟩
          clear hR cz
          refine cG.mono ?_; rintro r w3 ⟨rfl, b3⟩
          have b4 := bW1.trans (b3.mono bW1.size)
          have o3 := owns_below oW1.out b3
          clear cG b3 bW1
          cases tk with
          | false =>
            have HO3 : Hid _ := o3
            clear o3
            go_wp2_with fail
            go_roundw
            case rel =>
              refine ⟨([] : List A2), Bs, Os, HA0.out, rest_row0 (by have := Hn'.out; omega) (by omega), owns_below HO3.out ((Below.refl _ _).alloc (Nat.le_refl _) _), b4.alloc b4.size _, ?_⟩
              refine ⟨?_, by have := HL.out; omega, HSm.out⟩
              rw [HE.out]; simp
            case measure => simp [lenV] <;> omega
          | true =>
            have HO3 : Hid _ := o3
            clear o3
            go_wp2_with fail
            have b5 := b4.alloc b4.size (.cells #[.int .i64 v1, .int .i64 v2, .string v3] 30)
            refine (own_any k' (v1, v2, v3) _ hk' hv3).mono ?_; rintro r w5 ⟨rfl, b6⟩
            have b7 := b5.trans (b6.mono b5.size)
            have o5 := owns_below HO3.out (Below.trans ((Below.refl w3.heap.size w3).alloc (Nat.le_refl _) (.cells #[.int .i64 v1, .int .i64 v2, .string v3] 30)) (b6.mono (by simp)))
            have o6 := owns_below o5 ((Below.refl w5.heap.size w5).alloc (Nat.le_refl _) (.cells #[.string k', .int .i64 v1, .int .i64 v2, .string v3] 154))
            have hge : ∀ j, u7.ownBlock = some j → w.heap.size ≤ j := fun j hj => (owns_block o5 j hj).1
            have hL1 : Os.length ≤ 1048676 := by have := HL.out; omega
            clear o5 b6 b4 b5
            go_wp2_with (at_builtin; refine wpList_append_at rfl (.tmp 93) (.tmp 97) rfl w.heap.size u7 Os rfl o6 w5.heap.size 1 (k', (v1, v2, v3)) rfl ⟨by simp, by simp, by simp, by simp⟩ hL1 (by have := b7.size; simp; omega) ?_; intro v' w6 own' gr')
            have b8 := (b7.alloc b7.size (.cells #[.string k', .int .i64 v1, .int .i64 v2, .string v3] 154)).grown gr' (by have := b7.size; simp; omega) (fun j hj => hge j hj)
            go_roundw
            case rel =>
              refine ⟨([] : List A2), Bs, Os ++ [(k', (v1, v2, v3))], HA0.out, rest_row0 (by have := Hn'.out; omega) (by omega), own', b8, ?_⟩
              refine ⟨?_, by have := HL.out; rw [List.length_append]; simp; omega, HSm.out⟩
              rw [HE.out]; simp
            case measure => simp [lenV] <;> omega
        · have HQ : Hid (jn ch [] ((k', y1, y2, y3) :: Bs) = putO k' (fOf ch none (some (y1, y2, y3))) ++ jn ch [] Bs) := (show jn ch [] ((k', y1, y2, y3) :: Bs) = putO k' (fOf ch none (some (y1, y2, y3))) ++ jn ch [] Bs by rw [jn, joinL])
          go_wp2_with fail
          go_region
          go_wp2_with fail
          go_region
          go_wp2_with fail
          go_region
          go_wp2_with fail

          obtain ⟨W1, hW1⟩ : ∃ W1, W1 = (wr.alloc (.cells #[.bool false, .bool true, .int .i64 0, .int .i64 0, .string ⟨#[]⟩, .int .i64 y1, .int .i64 y2, .string y3] 216)).drew.drew.drew := ⟨_, rfl⟩
          have bW1 : Below w.heap.size w W1 := by rw [hW1]; exact below_drewN (hbw.alloc hbw.size _) 3
          have oW1 : Hid (W1.ownsRow w.heap.size 154 4 u7 Os.length (cellsA Os)) := by
            show World.ownsRow _ _ _ _ _ _ _
            rw [hW1]; exact owns_below HO.out (below_drewN ((Below.refl _ _).alloc (Nat.le_refl _) _) 3)
          rw [← hW1]
          clear hW1
          obtain ⟨⟨⟨v1, v2, v3⟩, tk⟩, hR⟩ : ∃ R : P3 × Bool, ch false true z0 (y1, y2, y3) = R := ⟨_, rfl⟩
          have cG := HC.out.ans W1 false true z0 (y1, y2, y3) bW1
          have cz := HC.out.one false true z0 (y1, y2, y3)
          rw [hR] at cG cz
          simp only at cG cz
          have hv3 : v3.size ≤ big := by
            rcases cz with h | h <;> (have h3 := congrArg (fun p : P3 => p.2.2) h; simp only at h3; rw [h3]; first | exact hx3 | exact hy3 | exact Nat.zero_le _)
          have HE : Hid (jn ch A B = (Os ++ (if tk then [(k', (v1, v2, v3))] else [])) ++ jn ch ([] : List A2) Bs) := by
            show _ = _
            rw [H.out.1, HQ.out, put_fOf ch _ none (some (y1, y2, y3)) (v1, v2, v3) tk hR, List.append_assoc]
          have HL : Hid (([] : List A2).length + Bs.length + Os.length + 1 ≤ 1048576) := by show _ ≤ _; have := H.out.2.1; simp at this ⊢; omega
          have HSm : Hid (Small ([] : List A2) ∧ Small Bs) := ⟨by first | exact H.out.2.2.1 | exact small_tail H.out.2.2.1, by first | exact H.out.2.2.2 | exact small_tail H.out.2.2.2⟩
          clear hR cz
          refine cG.mono ?_; rintro r w3 ⟨rfl, b3⟩
          have b4 := bW1.trans (b3.mono bW1.size)
          have o3 := owns_below oW1.out b3
          clear cG b3 bW1
          cases tk with
          | false =>
            have HO3 : Hid _ := o3
            clear o3
            go_wp2_with fail
            go_roundw
            case rel =>
              refine ⟨([] : List A2), Bs, Os, HA0.out, rest_row Hn'.out (by omega) HR2.out, owns_below HO3.out ((Below.refl _ _).alloc (Nat.le_refl _) _), b4.alloc b4.size _, ?_⟩
              refine ⟨?_, by have := HL.out; omega, HSm.out⟩
              rw [HE.out]; simp
            case measure => simp [lenV] <;> omega
          | true =>
            have HO3 : Hid _ := o3
            clear o3
            go_wp2_with fail
            have b5 := b4.alloc b4.size (.cells #[.int .i64 v1, .int .i64 v2, .string v3] 30)
            refine (own_any k' (v1, v2, v3) _ hk' hv3).mono ?_; rintro r w5 ⟨rfl, b6⟩
            have b7 := b5.trans (b6.mono b5.size)
            have o5 := owns_below HO3.out (Below.trans ((Below.refl w3.heap.size w3).alloc (Nat.le_refl _) (.cells #[.int .i64 v1, .int .i64 v2, .string v3] 30)) (b6.mono (by simp)))
            have o6 := owns_below o5 ((Below.refl w5.heap.size w5).alloc (Nat.le_refl _) (.cells #[.string k', .int .i64 v1, .int .i64 v2, .string v3] 154))
            have hge : ∀ j, u7.ownBlock = some j → w.heap.size ≤ j := fun j hj => (owns_block o5 j hj).1
            have hL1 : Os.length ≤ 1048676 := by have := HL.out; omega
            clear o5 b6 b4 b5
            go_wp2_with (at_builtin; refine wpList_append_at rfl (.tmp 93) (.tmp 97) rfl w.heap.size u7 Os rfl o6 w5.heap.size 1 (k', (v1, v2, v3)) rfl ⟨by simp, by simp, by simp, by simp⟩ hL1 (by have := b7.size; simp; omega) ?_; intro v' w6 own' gr')
            have b8 := (b7.alloc b7.size (.cells #[.string k', .int .i64 v1, .int .i64 v2, .string v3] 154)).grown gr' (by have := b7.size; simp; omega) (fun j hj => hge j hj)
            go_roundw
            case rel =>
              refine ⟨([] : List A2), Bs, Os ++ [(k', (v1, v2, v3))], HA0.out, rest_row Hn'.out (by omega) HR2.out, own', b8, ?_⟩
              refine ⟨?_, by have := HL.out; rw [List.length_append]; simp; omega, HSm.out⟩
              rw [HE.out]; simp
            case measure => simp [lenV] <;> omega
    | cons x As =>
      cases Bs with
      | nil =>
        obtain ⟨b, off, c1, rfl, h1, px, pr⟩ := ra.cons
        have px' := px.below hbw
        obtain ⟨k, x1, x2, x3⟩ := x
        obtain ⟨d0, d1, d2, d3⟩ := px'
        simp only at d0 d1 d2 d3
        have hk := (H.out.2.2.1 _ (List.mem_cons_self ..)).1
        have hx3 := (H.out.2.2.1 _ (List.mem_cons_self ..)).2
        simp only at hk hx3
        have HR : Hid (∀ (j : Nat) (x : A2), As[j]? = some x → PairAt w b (off + 4 + j * 4) x) := pr
        clear pr px
        have hbl : b < wr.heap.size := lt_of_cell d0
        have hb1 : ¬ b = wr.heap.size := by omega
        have hb2 : ¬ wr.heap.size = b := by omega
        obtain ⟨n, hn⟩ : ∃ n, As.length = n := ⟨_, rfl⟩
        rw [hn] at h1 ⊢
        have Hn : Hid (As.length = n) := hn
        clear hn
        have g1 : (0 : Int) < ((n + 1 : Nat) : Int) := by omega
        have hz1 : ((n : Int) + 1 == 0) = false := by simp; omega
        have hz2 : (1 : Int) ≤ (n : Int) + 1 := by omega
        have hz3 : (0 : Int) < (n : Int) + 1 := by omega
        have hz4 : (n : Int) + 1 ≤ (c1 : Int) := by omega

        obtain ⟨p2, c2, rfl, h2⟩ := rb.val
        simp only [List.length_nil]
        have hy3 : True := trivial
        have HO : Hid _ := ho
        have HB0 : Hid (RowA w _ []) := rb
        clear rb ho
        by_cases hc1 : c1 = 1
        · subst hc1
          have HQ : Hid (jn ch ((k, x1, x2, x3) :: As) [] = putO k (fOf ch (some (x1, x2, x3)) none) ++ jn ch As []) := (show jn ch ((k, x1, x2, x3) :: As) [] = putO k (fOf ch (some (x1, x2, x3)) none) ++ jn ch As [] by rw [jn, joinL])
          go_wp2_with fail
          go_region
          go_wp2_with fail
          go_region
          go_wp2_with fail
          go_region
          go_wp2_with fail

          obtain ⟨W1, hW1⟩ : ∃ W1, W1 = (wr.alloc (.cells #[.bool true, .bool false, .int .i64 x1, .int .i64 x2, .string x3, .int .i64 0, .int .i64 0, .string ⟨#[]⟩] 216)).drew.drew.drew := ⟨_, rfl⟩
          have bW1 : Below w.heap.size w W1 := by rw [hW1]; exact below_drewN (hbw.alloc hbw.size _) 3
          have oW1 : Hid (W1.ownsRow w.heap.size 154 4 u7 Os.length (cellsA Os)) := by
            show World.ownsRow _ _ _ _ _ _ _
            rw [hW1]; exact owns_below HO.out (below_drewN ((Below.refl _ _).alloc (Nat.le_refl _) _) 3)
          rw [← hW1]
          clear hW1
          obtain ⟨⟨⟨v1, v2, v3⟩, tk⟩, hR⟩ : ∃ R : P3 × Bool, ch true false (x1, x2, x3) z0 = R := ⟨_, rfl⟩
          have cG := HC.out.ans W1 true false (x1, x2, x3) z0 bW1
          have cz := HC.out.one true false (x1, x2, x3) z0
          rw [hR] at cG cz
          simp only at cG cz
          have hv3 : v3.size ≤ big := by
            rcases cz with h | h <;> (have h3 := congrArg (fun p : P3 => p.2.2) h; simp only at h3; rw [h3]; first | exact hx3 | exact hy3 | exact Nat.zero_le _)
          have HE : Hid (jn ch A B = (Os ++ (if tk then [(k, (v1, v2, v3))] else [])) ++ jn ch As ([] : List A2)) := by
            show _ = _
            rw [H.out.1, HQ.out, put_fOf ch _ (some (x1, x2, x3)) none (v1, v2, v3) tk hR, List.append_assoc]
          have HL : Hid (As.length + ([] : List A2).length + Os.length + 1 ≤ 1048576) := by show _ ≤ _; have := H.out.2.1; simp at this ⊢; omega
          have HSm : Hid (Small As ∧ Small ([] : List A2)) := ⟨by first | exact H.out.2.2.1 | exact small_tail H.out.2.2.1, by first | exact H.out.2.2.2 | exact small_tail H.out.2.2.2⟩
          clear hR cz
          refine cG.mono ?_; rintro r w3 ⟨rfl, b3⟩
          have b4 := bW1.trans (b3.mono bW1.size)
          have o3 := owns_below oW1.out b3
          clear cG b3 bW1
          cases tk with
          | false =>
            have HO3 : Hid _ := o3
            clear o3
            go_wp2_with fail
            go_roundw
            case rel =>
              refine ⟨As, ([] : List A2), Os, rest_row0 (by have := Hn.out; omega) (by omega), HB0.out, owns_below HO3.out ((Below.refl _ _).alloc (Nat.le_refl _) _), b4.alloc b4.size _, ?_⟩
              refine ⟨?_, by have := HL.out; omega, HSm.out⟩
              rw [HE.out]; simp
            case measure => simp [lenV] <;> omega
          | true =>
            have HO3 : Hid _ := o3
            clear o3
            go_wp2_with fail
            have b5 := b4.alloc b4.size (.cells #[.int .i64 v1, .int .i64 v2, .string v3] 30)
            refine (own_any k (v1, v2, v3) _ hk hv3).mono ?_; rintro r w5 ⟨rfl, b6⟩
            have b7 := b5.trans (b6.mono b5.size)
            have o5 := owns_below HO3.out (Below.trans ((Below.refl w3.heap.size w3).alloc (Nat.le_refl _) (.cells #[.int .i64 v1, .int .i64 v2, .string v3] 30)) (b6.mono (by simp)))
            have o6 := owns_below o5 ((Below.refl w5.heap.size w5).alloc (Nat.le_refl _) (.cells #[.string k, .int .i64 v1, .int .i64 v2, .string v3] 154))
            have hge : ∀ j, u7.ownBlock = some j → w.heap.size ≤ j := fun j hj => (owns_block o5 j hj).1
            have hL1 : Os.length ≤ 1048676 := by have := HL.out; omega
            clear o5 b6 b4 b5
            go_wp2_with (at_builtin; refine wpList_append_at rfl (.tmp 93) (.tmp 97) rfl w.heap.size u7 Os rfl o6 w5.heap.size 1 (k, (v1, v2, v3)) rfl ⟨by simp, by simp, by simp, by simp⟩ hL1 (by have := b7.size; simp; omega) ?_; intro v' w6 own' gr')
            have b8 := (b7.alloc b7.size (.cells #[.string k, .int .i64 v1, .int .i64 v2, .string v3] 154)).grown gr' (by have := b7.size; simp; omega) (fun j hj => hge j hj)
            go_roundw
            case rel =>
              refine ⟨As, ([] : List A2), Os ++ [(k, (v1, v2, v3))], rest_row0 (by have := Hn.out; omega) (by omega), HB0.out, own', b8, ?_⟩
              refine ⟨?_, by have := HL.out; rw [List.length_append]; simp; omega, HSm.out⟩
              rw [HE.out]; simp
            case measure => simp [lenV] <;> omega
        · have HQ : Hid (jn ch ((k, x1, x2, x3) :: As) [] = putO k (fOf ch (some (x1, x2, x3)) none) ++ jn ch As []) := (show jn ch ((k, x1, x2, x3) :: As) [] = putO k (fOf ch (some (x1, x2, x3)) none) ++ jn ch As [] by rw [jn, joinL])
          go_wp2_with fail
          go_region
          go_wp2_with fail
          go_region
          go_wp2_with fail
          go_region
          go_wp2_with fail

          obtain ⟨W1, hW1⟩ : ∃ W1, W1 = (wr.alloc (.cells #[.bool true, .bool false, .int .i64 x1, .int .i64 x2, .string x3, .int .i64 0, .int .i64 0, .string ⟨#[]⟩] 216)).drew.drew.drew := ⟨_, rfl⟩
          have bW1 : Below w.heap.size w W1 := by rw [hW1]; exact below_drewN (hbw.alloc hbw.size _) 3
          have oW1 : Hid (W1.ownsRow w.heap.size 154 4 u7 Os.length (cellsA Os)) := by
            show World.ownsRow _ _ _ _ _ _ _
            rw [hW1]; exact owns_below HO.out (below_drewN ((Below.refl _ _).alloc (Nat.le_refl _) _) 3)
          rw [← hW1]
          clear hW1
          obtain ⟨⟨⟨v1, v2, v3⟩, tk⟩, hR⟩ : ∃ R : P3 × Bool, ch true false (x1, x2, x3) z0 = R := ⟨_, rfl⟩
          have cG := HC.out.ans W1 true false (x1, x2, x3) z0 bW1
          have cz := HC.out.one true false (x1, x2, x3) z0
          rw [hR] at cG cz
          simp only at cG cz
          have hv3 : v3.size ≤ big := by
            rcases cz with h | h <;> (have h3 := congrArg (fun p : P3 => p.2.2) h; simp only at h3; rw [h3]; first | exact hx3 | exact hy3 | exact Nat.zero_le _)
          have HE : Hid (jn ch A B = (Os ++ (if tk then [(k, (v1, v2, v3))] else [])) ++ jn ch As ([] : List A2)) := by
            show _ = _
            rw [H.out.1, HQ.out, put_fOf ch _ (some (x1, x2, x3)) none (v1, v2, v3) tk hR, List.append_assoc]
          have HL : Hid (As.length + ([] : List A2).length + Os.length + 1 ≤ 1048576) := by show _ ≤ _; have := H.out.2.1; simp at this ⊢; omega
          have HSm : Hid (Small As ∧ Small ([] : List A2)) := ⟨by first | exact H.out.2.2.1 | exact small_tail H.out.2.2.1, by first | exact H.out.2.2.2 | exact small_tail H.out.2.2.2⟩
          clear hR cz
          refine cG.mono ?_; rintro r w3 ⟨rfl, b3⟩
          have b4 := bW1.trans (b3.mono bW1.size)
          have o3 := owns_below oW1.out b3
          clear cG b3 bW1
          cases tk with
          | false =>
            have HO3 : Hid _ := o3
            clear o3
            go_wp2_with fail
            go_roundw
            case rel =>
              refine ⟨As, ([] : List A2), Os, rest_row Hn.out (by omega) HR.out, HB0.out, owns_below HO3.out ((Below.refl _ _).alloc (Nat.le_refl _) _), b4.alloc b4.size _, ?_⟩
              refine ⟨?_, by have := HL.out; omega, HSm.out⟩
              rw [HE.out]; simp
            case measure => simp [lenV] <;> omega
          | true =>
            have HO3 : Hid _ := o3
            clear o3
            go_wp2_with fail
            have b5 := b4.alloc b4.size (.cells #[.int .i64 v1, .int .i64 v2, .string v3] 30)
            refine (own_any k (v1, v2, v3) _ hk hv3).mono ?_; rintro r w5 ⟨rfl, b6⟩
            have b7 := b5.trans (b6.mono b5.size)
            have o5 := owns_below HO3.out (Below.trans ((Below.refl w3.heap.size w3).alloc (Nat.le_refl _) (.cells #[.int .i64 v1, .int .i64 v2, .string v3] 30)) (b6.mono (by simp)))
            have o6 := owns_below o5 ((Below.refl w5.heap.size w5).alloc (Nat.le_refl _) (.cells #[.string k, .int .i64 v1, .int .i64 v2, .string v3] 154))
            have hge : ∀ j, u7.ownBlock = some j → w.heap.size ≤ j := fun j hj => (owns_block o5 j hj).1
            have hL1 : Os.length ≤ 1048676 := by have := HL.out; omega
            clear o5 b6 b4 b5
            go_wp2_with (at_builtin; refine wpList_append_at rfl (.tmp 93) (.tmp 97) rfl w.heap.size u7 Os rfl o6 w5.heap.size 1 (k, (v1, v2, v3)) rfl ⟨by simp, by simp, by simp, by simp⟩ hL1 (by have := b7.size; simp; omega) ?_; intro v' w6 own' gr')
            have b8 := (b7.alloc b7.size (.cells #[.string k, .int .i64 v1, .int .i64 v2, .string v3] 154)).grown gr' (by have := b7.size; simp; omega) (fun j hj => hge j hj)
            go_roundw
            case rel =>
              refine ⟨As, ([] : List A2), Os ++ [(k, (v1, v2, v3))], rest_row Hn.out (by omega) HR.out, HB0.out, own', b8, ?_⟩
              refine ⟨?_, by have := HL.out; rw [List.length_append]; simp; omega, HSm.out⟩
              rw [HE.out]; simp
            case measure => simp [lenV] <;> omega
      | cons y Bs =>
        obtain ⟨b, off, c1, rfl, h1, px, pr⟩ := ra.cons
        have px' := px.below hbw
        obtain ⟨k, x1, x2, x3⟩ := x
        obtain ⟨d0, d1, d2, d3⟩ := px'
        simp only at d0 d1 d2 d3
        have hk := (H.out.2.2.1 _ (List.mem_cons_self ..)).1
        have hx3 := (H.out.2.2.1 _ (List.mem_cons_self ..)).2
        simp only at hk hx3
        have HR : Hid (∀ (j : Nat) (x : A2), As[j]? = some x → PairAt w b (off + 4 + j * 4) x) := pr
        clear pr px
        have hbl : b < wr.heap.size := lt_of_cell d0
        have hb1 : ¬ b = wr.heap.size := by omega
        have hb2 : ¬ wr.heap.size = b := by omega
        obtain ⟨n, hn⟩ : ∃ n, As.length = n := ⟨_, rfl⟩
        rw [hn] at h1 ⊢
        have Hn : Hid (As.length = n) := hn
        clear hn
        have g1 : (0 : Int) < ((n + 1 : Nat) : Int) := by omega
        have hz1 : ((n : Int) + 1 == 0) = false := by simp; omega
        have hz2 : (1 : Int) ≤ (n : Int) + 1 := by omega
        have hz3 : (0 : Int) < (n : Int) + 1 := by omega
        have hz4 : (n : Int) + 1 ≤ (c1 : Int) := by omega

        obtain ⟨b', off', c2, rfl, h2, py, pr2⟩ := rb.cons
        have py' := py.below hbw
        obtain ⟨k', y1, y2, y3⟩ := y
        obtain ⟨e0, e1, e2, e3⟩ := py'
        simp only at e0 e1 e2 e3
        have hk' := (H.out.2.2.2 _ (List.mem_cons_self ..)).1
        have hy3 := (H.out.2.2.2 _ (List.mem_cons_self ..)).2
        simp only at hk' hy3
        have HR2 : Hid (∀ (j : Nat) (x : A2), Bs[j]? = some x → PairAt w b' (off' + 4 + j * 4) x) := pr2
        clear pr2 py
        have hbl' : b' < wr.heap.size := lt_of_cell e0
        have hb1' : ¬ b' = wr.heap.size := by omega
        have hb2' : ¬ wr.heap.size = b' := by omega
        obtain ⟨n', hn'⟩ : ∃ n, Bs.length = n := ⟨_, rfl⟩
        rw [hn'] at h2 ⊢
        have Hn' : Hid (Bs.length = n') := hn'
        clear hn'
        have g1' : (0 : Int) < ((n' + 1 : Nat) : Int) := by omega
        have hz1' : ((n' : Int) + 1 == 0) = false := by simp; omega
        have hz2' : (1 : Int) ≤ (n' : Int) + 1 := by omega
        have hz3' : (0 : Int) < (n' : Int) + 1 := by omega
        have hz4' : (n' : Int) + 1 ≤ (c2 : Int) := by omega

        have HO : Hid _ := ho
        have HA0 : Hid (RowA w _ (((k, x1, x2, x3) :: As))) := ra
        have HB0 : Hid (RowA w _ (((k', y1, y2, y3) :: Bs))) := rb
        clear ra rb ho
        by_cases l1 : kc k k' < 0
        · have q1 := leq_run (P := Tryz.prog) (t := 9) k k' true (by have := kc_swap k k'; simp; omega)
          have q2 := leq_run (P := Tryz.prog) (t := 9) k' k false (by simpa using l1)
          by_cases hc1 : c1 = 1
          · subst hc1
            have HQ : Hid (jn ch ((k, x1, x2, x3) :: As) ((k', y1, y2, y3) :: Bs) = putO k (fOf ch (some (x1, x2, x3)) none) ++ jn ch As ((k', y1, y2, y3) :: Bs)) := (show jn ch ((k, x1, x2, x3) :: As) ((k', y1, y2, y3) :: Bs) = putO k (fOf ch (some (x1, x2, x3)) none) ++ jn ch As ((k', y1, y2, y3) :: Bs) by rw [jn, joinL, if_pos l1])
            go_wp2_with fail
            go_region
            go_wp2_with fail
            go_region
            go_wp2_with fail
            go_region
            go_wp2_with fail

            obtain ⟨W1, hW1⟩ : ∃ W1, W1 = (wr.alloc (.cells #[.bool true, .bool false, .int .i64 x1, .int .i64 x2, .string x3, .int .i64 0, .int .i64 0, .string ⟨#[]⟩] 216)).drew.drew.drew := ⟨_, rfl⟩
            have bW1 : Below w.heap.size w W1 := by rw [hW1]; exact below_drewN (hbw.alloc hbw.size _) 3
            have oW1 : Hid (W1.ownsRow w.heap.size 154 4 u7 Os.length (cellsA Os)) := by
              show World.ownsRow _ _ _ _ _ _ _
              rw [hW1]; exact owns_below HO.out (below_drewN ((Below.refl _ _).alloc (Nat.le_refl _) _) 3)
            rw [← hW1]
            clear hW1
            obtain ⟨⟨⟨v1, v2, v3⟩, tk⟩, hR⟩ : ∃ R : P3 × Bool, ch true false (x1, x2, x3) z0 = R := ⟨_, rfl⟩
            have cG := HC.out.ans W1 true false (x1, x2, x3) z0 bW1
            have cz := HC.out.one true false (x1, x2, x3) z0
            rw [hR] at cG cz
            simp only at cG cz
            have hv3 : v3.size ≤ big := by
              rcases cz with h | h <;> (have h3 := congrArg (fun p : P3 => p.2.2) h; simp only at h3; rw [h3]; first | exact hx3 | exact hy3 | exact Nat.zero_le _)
            have HE : Hid (jn ch A B = (Os ++ (if tk then [(k, (v1, v2, v3))] else [])) ++ jn ch As ((k', y1, y2, y3) :: Bs)) := by
              show _ = _
              rw [H.out.1, HQ.out, put_fOf ch _ (some (x1, x2, x3)) none (v1, v2, v3) tk hR, List.append_assoc]
            have HL : Hid (As.length + ((k', y1, y2, y3) :: Bs).length + Os.length + 1 ≤ 1048576) := by show _ ≤ _; have := H.out.2.1; simp at this ⊢; omega
            have HSm : Hid (Small As ∧ Small ((k', y1, y2, y3) :: Bs)) := ⟨by first | exact H.out.2.2.1 | exact small_tail H.out.2.2.1, by first | exact H.out.2.2.2 | exact small_tail H.out.2.2.2⟩
            clear hR cz
            refine cG.mono ?_; rintro r w3 ⟨rfl, b3⟩
            have b4 := bW1.trans (b3.mono bW1.size)
            have o3 := owns_below oW1.out b3
            clear cG b3 bW1
            cases tk with
            | false =>
              have HO3 : Hid _ := o3
              clear o3
              go_wp2_with fail
              go_roundw
              case rel =>
                refine ⟨As, ((k', y1, y2, y3) :: Bs), Os, rest_row0 (by have := Hn.out; omega) (by omega), (by have h := HB0.out; rw [Hn'.out] at h; exact h), owns_below HO3.out ((Below.refl _ _).alloc (Nat.le_refl _) _), b4.alloc b4.size _, ?_⟩
                refine ⟨?_, by have := HL.out; omega, HSm.out⟩
                rw [HE.out]; simp
              case measure => simp [lenV] <;> omega
            | true =>
              have HO3 : Hid _ := o3
              clear o3
              go_wp2_with fail
              have b5 := b4.alloc b4.size (.cells #[.int .i64 v1, .int .i64 v2, .string v3] 30)
              refine (own_any k (v1, v2, v3) _ hk hv3).mono ?_; rintro r w5 ⟨rfl, b6⟩
              have b7 := b5.trans (b6.mono b5.size)
              have o5 := owns_below HO3.out (Below.trans ((Below.refl w3.heap.size w3).alloc (Nat.le_refl _) (.cells #[.int .i64 v1, .int .i64 v2, .string v3] 30)) (b6.mono (by simp)))
              have o6 := owns_below o5 ((Below.refl w5.heap.size w5).alloc (Nat.le_refl _) (.cells #[.string k, .int .i64 v1, .int .i64 v2, .string v3] 154))
              have hge : ∀ j, u7.ownBlock = some j → w.heap.size ≤ j := fun j hj => (owns_block o5 j hj).1
              have hL1 : Os.length ≤ 1048676 := by have := HL.out; omega
              clear o5 b6 b4 b5
              go_wp2_with (at_builtin; refine wpList_append_at rfl (.tmp 93) (.tmp 97) rfl w.heap.size u7 Os rfl o6 w5.heap.size 1 (k, (v1, v2, v3)) rfl ⟨by simp, by simp, by simp, by simp⟩ hL1 (by have := b7.size; simp; omega) ?_; intro v' w6 own' gr')
              have b8 := (b7.alloc b7.size (.cells #[.string k, .int .i64 v1, .int .i64 v2, .string v3] 154)).grown gr' (by have := b7.size; simp; omega) (fun j hj => hge j hj)
              go_roundw
              case rel =>
                refine ⟨As, ((k', y1, y2, y3) :: Bs), Os ++ [(k, (v1, v2, v3))], rest_row0 (by have := Hn.out; omega) (by omega), (by have h := HB0.out; rw [Hn'.out] at h; exact h), own', b8, ?_⟩
                refine ⟨?_, by have := HL.out; rw [List.length_append]; simp; omega, HSm.out⟩
                rw [HE.out]; simp
              case measure => simp [lenV] <;> omega
          · have HQ : Hid (jn ch ((k, x1, x2, x3) :: As) ((k', y1, y2, y3) :: Bs) = putO k (fOf ch (some (x1, x2, x3)) none) ++ jn ch As ((k', y1, y2, y3) :: Bs)) := (show jn ch ((k, x1, x2, x3) :: As) ((k', y1, y2, y3) :: Bs) = putO k (fOf ch (some (x1, x2, x3)) none) ++ jn ch As ((k', y1, y2, y3) :: Bs) by rw [jn, joinL, if_pos l1])
            go_wp2_with fail
            go_region
            go_wp2_with fail
            go_region
            go_wp2_with fail
            go_region
            go_wp2_with fail

            obtain ⟨W1, hW1⟩ : ∃ W1, W1 = (wr.alloc (.cells #[.bool true, .bool false, .int .i64 x1, .int .i64 x2, .string x3, .int .i64 0, .int .i64 0, .string ⟨#[]⟩] 216)).drew.drew.drew := ⟨_, rfl⟩
            have bW1 : Below w.heap.size w W1 := by rw [hW1]; exact below_drewN (hbw.alloc hbw.size _) 3
            have oW1 : Hid (W1.ownsRow w.heap.size 154 4 u7 Os.length (cellsA Os)) := by
              show World.ownsRow _ _ _ _ _ _ _
              rw [hW1]; exact owns_below HO.out (below_drewN ((Below.refl _ _).alloc (Nat.le_refl _) _) 3)
            rw [← hW1]
            clear hW1
            obtain ⟨⟨⟨v1, v2, v3⟩, tk⟩, hR⟩ : ∃ R : P3 × Bool, ch true false (x1, x2, x3) z0 = R := ⟨_, rfl⟩
            have cG := HC.out.ans W1 true false (x1, x2, x3) z0 bW1
            have cz := HC.out.one true false (x1, x2, x3) z0
            rw [hR] at cG cz
            simp only at cG cz
            have hv3 : v3.size ≤ big := by
              rcases cz with h | h <;> (have h3 := congrArg (fun p : P3 => p.2.2) h; simp only at h3; rw [h3]; first | exact hx3 | exact hy3 | exact Nat.zero_le _)
            have HE : Hid (jn ch A B = (Os ++ (if tk then [(k, (v1, v2, v3))] else [])) ++ jn ch As ((k', y1, y2, y3) :: Bs)) := by
              show _ = _
              rw [H.out.1, HQ.out, put_fOf ch _ (some (x1, x2, x3)) none (v1, v2, v3) tk hR, List.append_assoc]
            have HL : Hid (As.length + ((k', y1, y2, y3) :: Bs).length + Os.length + 1 ≤ 1048576) := by show _ ≤ _; have := H.out.2.1; simp at this ⊢; omega
            have HSm : Hid (Small As ∧ Small ((k', y1, y2, y3) :: Bs)) := ⟨by first | exact H.out.2.2.1 | exact small_tail H.out.2.2.1, by first | exact H.out.2.2.2 | exact small_tail H.out.2.2.2⟩
            clear hR cz
            refine cG.mono ?_; rintro r w3 ⟨rfl, b3⟩
            have b4 := bW1.trans (b3.mono bW1.size)
            have o3 := owns_below oW1.out b3
            clear cG b3 bW1
            cases tk with
            | false =>
              have HO3 : Hid _ := o3
              clear o3
              go_wp2_with fail
              go_roundw
              case rel =>
                refine ⟨As, ((k', y1, y2, y3) :: Bs), Os, rest_row Hn.out (by omega) HR.out, (by have h := HB0.out; rw [Hn'.out] at h; exact h), owns_below HO3.out ((Below.refl _ _).alloc (Nat.le_refl _) _), b4.alloc b4.size _, ?_⟩
                refine ⟨?_, by have := HL.out; omega, HSm.out⟩
                rw [HE.out]; simp
              case measure => simp [lenV] <;> omega
            | true =>
              have HO3 : Hid _ := o3
              clear o3
              go_wp2_with fail
              have b5 := b4.alloc b4.size (.cells #[.int .i64 v1, .int .i64 v2, .string v3] 30)
              refine (own_any k (v1, v2, v3) _ hk hv3).mono ?_; rintro r w5 ⟨rfl, b6⟩
              have b7 := b5.trans (b6.mono b5.size)
              have o5 := owns_below HO3.out (Below.trans ((Below.refl w3.heap.size w3).alloc (Nat.le_refl _) (.cells #[.int .i64 v1, .int .i64 v2, .string v3] 30)) (b6.mono (by simp)))
              have o6 := owns_below o5 ((Below.refl w5.heap.size w5).alloc (Nat.le_refl _) (.cells #[.string k, .int .i64 v1, .int .i64 v2, .string v3] 154))
              have hge : ∀ j, u7.ownBlock = some j → w.heap.size ≤ j := fun j hj => (owns_block o5 j hj).1
              have hL1 : Os.length ≤ 1048676 := by have := HL.out; omega
              clear o5 b6 b4 b5
              go_wp2_with (at_builtin; refine wpList_append_at rfl (.tmp 93) (.tmp 97) rfl w.heap.size u7 Os rfl o6 w5.heap.size 1 (k, (v1, v2, v3)) rfl ⟨by simp, by simp, by simp, by simp⟩ hL1 (by have := b7.size; simp; omega) ?_; intro v' w6 own' gr')
              have b8 := (b7.alloc b7.size (.cells #[.string k, .int .i64 v1, .int .i64 v2, .string v3] 154)).grown gr' (by have := b7.size; simp; omega) (fun j hj => hge j hj)
              go_roundw
              case rel =>
                refine ⟨As, ((k', y1, y2, y3) :: Bs), Os ++ [(k, (v1, v2, v3))], rest_row Hn.out (by omega) HR.out, (by have h := HB0.out; rw [Hn'.out] at h; exact h), own', b8, ?_⟩
                refine ⟨?_, by have := HL.out; rw [List.length_append]; simp; omega, HSm.out⟩
                rw [HE.out]; simp
              case measure => simp [lenV] <;> omega

        · by_cases l2 : kc k k' = 0
          · have q1 := leq_run (P := Tryz.prog) (t := 9) k k' true (by have := kc_swap k k'; simp; omega)
            have q2 := leq_run (P := Tryz.prog) (t := 9) k' k true (by simpa using l1)
            obtain rfl := kc_zero.1 l2
            by_cases hc1 : c1 = 1
            · subst hc1
              by_cases hc2 : c2 = 1
              · subst hc2
                have HQ : Hid (jn ch ((k, x1, x2, x3) :: As) ((k, y1, y2, y3) :: Bs) = putO k (fOf ch (some (x1, x2, x3)) (some (y1, y2, y3))) ++ jn ch As Bs) := (show jn ch ((k, x1, x2, x3) :: As) ((k, y1, y2, y3) :: Bs) = putO k (fOf ch (some (x1, x2, x3)) (some (y1, y2, y3))) ++ jn ch As Bs by rw [jn, joinL, if_neg l1, if_pos l2])
                go_wp2_with fail
                go_region
                go_wp2_with fail
                go_region
                go_wp2_with fail
                go_region
                go_wp2_with fail
                go_region
                go_wp2_with fail

                obtain ⟨W1, hW1⟩ : ∃ W1, W1 = (wr.alloc (.cells #[.bool true, .bool true, .int .i64 x1, .int .i64 x2, .string x3, .int .i64 y1, .int .i64 y2, .string y3] 216)).drew.drew.drew.drew := ⟨_, rfl⟩
                have bW1 : Below w.heap.size w W1 := by rw [hW1]; exact below_drewN (hbw.alloc hbw.size _) 4
                have oW1 : Hid (W1.ownsRow w.heap.size 154 4 u7 Os.length (cellsA Os)) := by
                  show World.ownsRow _ _ _ _ _ _ _
                  rw [hW1]; exact owns_below HO.out (below_drewN ((Below.refl _ _).alloc (Nat.le_refl _) _) 4)
                rw [← hW1]
                clear hW1
                obtain ⟨⟨⟨v1, v2, v3⟩, tk⟩, hR⟩ : ∃ R : P3 × Bool, ch true true (x1, x2, x3) (y1, y2, y3) = R := ⟨_, rfl⟩
                have cG := HC.out.ans W1 true true (x1, x2, x3) (y1, y2, y3) bW1
                have cz := HC.out.one true true (x1, x2, x3) (y1, y2, y3)
                rw [hR] at cG cz
                simp only at cG cz
                have hv3 : v3.size ≤ big := by
                  rcases cz with h | h <;> (have h3 := congrArg (fun p : P3 => p.2.2) h; simp only at h3; rw [h3]; first | exact hx3 | exact hy3 | exact Nat.zero_le _)
                have HE : Hid (jn ch A B = (Os ++ (if tk then [(k, (v1, v2, v3))] else [])) ++ jn ch As Bs) := by
                  show _ = _
                  rw [H.out.1, HQ.out, put_fOf ch _ (some (x1, x2, x3)) (some (y1, y2, y3)) (v1, v2, v3) tk hR, List.append_assoc]
                have HL : Hid (As.length + Bs.length + Os.length + 1 ≤ 1048576) := by show _ ≤ _; have := H.out.2.1; simp at this ⊢; omega
                have HSm : Hid (Small As ∧ Small Bs) := ⟨by first | exact H.out.2.2.1 | exact small_tail H.out.2.2.1, by first | exact H.out.2.2.2 | exact small_tail H.out.2.2.2⟩
                clear hR cz
                refine cG.mono ?_; rintro r w3 ⟨rfl, b3⟩
                have b4 := bW1.trans (b3.mono bW1.size)
                have o3 := owns_below oW1.out b3
                clear cG b3 bW1
                cases tk with
                | false =>
                  have HO3 : Hid _ := o3
                  clear o3
                  go_wp2_with fail
                  go_roundw
                  case rel =>
                    refine ⟨As, Bs, Os, rest_row0 (by have := Hn.out; omega) (by omega), rest_row0 (by have := Hn'.out; omega) (by omega), owns_below HO3.out ((Below.refl _ _).alloc (Nat.le_refl _) _), b4.alloc b4.size _, ?_⟩
                    refine ⟨?_, by have := HL.out; omega, HSm.out⟩
                    rw [HE.out]; simp
                  case measure => simp [lenV] <;> omega
                | true =>
                  have HO3 : Hid _ := o3
                  clear o3
                  go_wp2_with fail
                  have b5 := b4.alloc b4.size (.cells #[.int .i64 v1, .int .i64 v2, .string v3] 30)
                  refine (own_any k (v1, v2, v3) _ hk hv3).mono ?_; rintro r w5 ⟨rfl, b6⟩
                  have b7 := b5.trans (b6.mono b5.size)
                  have o5 := owns_below HO3.out (Below.trans ((Below.refl w3.heap.size w3).alloc (Nat.le_refl _) (.cells #[.int .i64 v1, .int .i64 v2, .string v3] 30)) (b6.mono (by simp)))
                  have o6 := owns_below o5 ((Below.refl w5.heap.size w5).alloc (Nat.le_refl _) (.cells #[.string k, .int .i64 v1, .int .i64 v2, .string v3] 154))
                  have hge : ∀ j, u7.ownBlock = some j → w.heap.size ≤ j := fun j hj => (owns_block o5 j hj).1
                  have hL1 : Os.length ≤ 1048676 := by have := HL.out; omega
                  clear o5 b6 b4 b5
                  go_wp2_with (at_builtin; refine wpList_append_at rfl (.tmp 93) (.tmp 97) rfl w.heap.size u7 Os rfl o6 w5.heap.size 1 (k, (v1, v2, v3)) rfl ⟨by simp, by simp, by simp, by simp⟩ hL1 (by have := b7.size; simp; omega) ?_; intro v' w6 own' gr')
                  have b8 := (b7.alloc b7.size (.cells #[.string k, .int .i64 v1, .int .i64 v2, .string v3] 154)).grown gr' (by have := b7.size; simp; omega) (fun j hj => hge j hj)
                  go_roundw
                  case rel =>
                    refine ⟨As, Bs, Os ++ [(k, (v1, v2, v3))], rest_row0 (by have := Hn.out; omega) (by omega), rest_row0 (by have := Hn'.out; omega) (by omega), own', b8, ?_⟩
                    refine ⟨?_, by have := HL.out; rw [List.length_append]; simp; omega, HSm.out⟩
                    rw [HE.out]; simp
                  case measure => simp [lenV] <;> omega
              · have HQ : Hid (jn ch ((k, x1, x2, x3) :: As) ((k, y1, y2, y3) :: Bs) = putO k (fOf ch (some (x1, x2, x3)) (some (y1, y2, y3))) ++ jn ch As Bs) := (show jn ch ((k, x1, x2, x3) :: As) ((k, y1, y2, y3) :: Bs) = putO k (fOf ch (some (x1, x2, x3)) (some (y1, y2, y3))) ++ jn ch As Bs by rw [jn, joinL, if_neg l1, if_pos l2])
                go_wp2_with fail
                go_region
                go_wp2_with fail
                go_region
                go_wp2_with fail
                go_region
                go_wp2_with fail
                go_region
                go_wp2_with fail

                obtain ⟨W1, hW1⟩ : ∃ W1, W1 = (wr.alloc (.cells #[.bool true, .bool true, .int .i64 x1, .int .i64 x2, .string x3, .int .i64 y1, .int .i64 y2, .string y3] 216)).drew.drew.drew.drew := ⟨_, rfl⟩
                have bW1 : Below w.heap.size w W1 := by rw [hW1]; exact below_drewN (hbw.alloc hbw.size _) 4
                have oW1 : Hid (W1.ownsRow w.heap.size 154 4 u7 Os.length (cellsA Os)) := by
                  show World.ownsRow _ _ _ _ _ _ _
                  rw [hW1]; exact owns_below HO.out (below_drewN ((Below.refl _ _).alloc (Nat.le_refl _) _) 4)
                rw [← hW1]
                clear hW1
                obtain ⟨⟨⟨v1, v2, v3⟩, tk⟩, hR⟩ : ∃ R : P3 × Bool, ch true true (x1, x2, x3) (y1, y2, y3) = R := ⟨_, rfl⟩
                have cG := HC.out.ans W1 true true (x1, x2, x3) (y1, y2, y3) bW1
                have cz := HC.out.one true true (x1, x2, x3) (y1, y2, y3)
                rw [hR] at cG cz
                simp only at cG cz
                have hv3 : v3.size ≤ big := by
                  rcases cz with h | h <;> (have h3 := congrArg (fun p : P3 => p.2.2) h; simp only at h3; rw [h3]; first | exact hx3 | exact hy3 | exact Nat.zero_le _)
                have HE : Hid (jn ch A B = (Os ++ (if tk then [(k, (v1, v2, v3))] else [])) ++ jn ch As Bs) := by
                  show _ = _
                  rw [H.out.1, HQ.out, put_fOf ch _ (some (x1, x2, x3)) (some (y1, y2, y3)) (v1, v2, v3) tk hR, List.append_assoc]
                have HL : Hid (As.length + Bs.length + Os.length + 1 ≤ 1048576) := by show _ ≤ _; have := H.out.2.1; simp at this ⊢; omega
                have HSm : Hid (Small As ∧ Small Bs) := ⟨by first | exact H.out.2.2.1 | exact small_tail H.out.2.2.1, by first | exact H.out.2.2.2 | exact small_tail H.out.2.2.2⟩
                clear hR cz
                refine cG.mono ?_; rintro r w3 ⟨rfl, b3⟩
                have b4 := bW1.trans (b3.mono bW1.size)
                have o3 := owns_below oW1.out b3
                clear cG b3 bW1
                cases tk with
                | false =>
                  have HO3 : Hid _ := o3
                  clear o3
                  go_wp2_with fail
                  go_roundw
                  case rel =>
                    refine ⟨As, Bs, Os, rest_row0 (by have := Hn.out; omega) (by omega), rest_row Hn'.out (by omega) HR2.out, owns_below HO3.out ((Below.refl _ _).alloc (Nat.le_refl _) _), b4.alloc b4.size _, ?_⟩
                    refine ⟨?_, by have := HL.out; omega, HSm.out⟩
                    rw [HE.out]; simp
                  case measure => simp [lenV] <;> omega
                | true =>
                  have HO3 : Hid _ := o3
                  clear o3
                  go_wp2_with fail
                  have b5 := b4.alloc b4.size (.cells #[.int .i64 v1, .int .i64 v2, .string v3] 30)
                  refine (own_any k (v1, v2, v3) _ hk hv3).mono ?_; rintro r w5 ⟨rfl, b6⟩
                  have b7 := b5.trans (b6.mono b5.size)
                  have o5 := owns_below HO3.out (Below.trans ((Below.refl w3.heap.size w3).alloc (Nat.le_refl _) (.cells #[.int .i64 v1, .int .i64 v2, .string v3] 30)) (b6.mono (by simp)))
                  have o6 := owns_below o5 ((Below.refl w5.heap.size w5).alloc (Nat.le_refl _) (.cells #[.string k, .int .i64 v1, .int .i64 v2, .string v3] 154))
                  have hge : ∀ j, u7.ownBlock = some j → w.heap.size ≤ j := fun j hj => (owns_block o5 j hj).1
                  have hL1 : Os.length ≤ 1048676 := by have := HL.out; omega
                  clear o5 b6 b4 b5
                  go_wp2_with (at_builtin; refine wpList_append_at rfl (.tmp 93) (.tmp 97) rfl w.heap.size u7 Os rfl o6 w5.heap.size 1 (k, (v1, v2, v3)) rfl ⟨by simp, by simp, by simp, by simp⟩ hL1 (by have := b7.size; simp; omega) ?_; intro v' w6 own' gr')
                  have b8 := (b7.alloc b7.size (.cells #[.string k, .int .i64 v1, .int .i64 v2, .string v3] 154)).grown gr' (by have := b7.size; simp; omega) (fun j hj => hge j hj)
                  go_roundw
                  case rel =>
                    refine ⟨As, Bs, Os ++ [(k, (v1, v2, v3))], rest_row0 (by have := Hn.out; omega) (by omega), rest_row Hn'.out (by omega) HR2.out, own', b8, ?_⟩
                    refine ⟨?_, by have := HL.out; rw [List.length_append]; simp; omega, HSm.out⟩
                    rw [HE.out]; simp
                  case measure => simp [lenV] <;> omega
            · by_cases hc2 : c2 = 1
              · subst hc2
                have HQ : Hid (jn ch ((k, x1, x2, x3) :: As) ((k, y1, y2, y3) :: Bs) = putO k (fOf ch (some (x1, x2, x3)) (some (y1, y2, y3))) ++ jn ch As Bs) := (show jn ch ((k, x1, x2, x3) :: As) ((k, y1, y2, y3) :: Bs) = putO k (fOf ch (some (x1, x2, x3)) (some (y1, y2, y3))) ++ jn ch As Bs by rw [jn, joinL, if_neg l1, if_pos l2])
                go_wp2_with fail
                go_region
                go_wp2_with fail
                go_region
                go_wp2_with fail
                go_region
                go_wp2_with fail
                go_region
                go_wp2_with fail

                obtain ⟨W1, hW1⟩ : ∃ W1, W1 = (wr.alloc (.cells #[.bool true, .bool true, .int .i64 x1, .int .i64 x2, .string x3, .int .i64 y1, .int .i64 y2, .string y3] 216)).drew.drew.drew.drew := ⟨_, rfl⟩
                have bW1 : Below w.heap.size w W1 := by rw [hW1]; exact below_drewN (hbw.alloc hbw.size _) 4
                have oW1 : Hid (W1.ownsRow w.heap.size 154 4 u7 Os.length (cellsA Os)) := by
                  show World.ownsRow _ _ _ _ _ _ _
                  rw [hW1]; exact owns_below HO.out (below_drewN ((Below.refl _ _).alloc (Nat.le_refl _) _) 4)
                rw [← hW1]
                clear hW1
                obtain ⟨⟨⟨v1, v2, v3⟩, tk⟩, hR⟩ : ∃ R : P3 × Bool, ch true true (x1, x2, x3) (y1, y2, y3) = R := ⟨_, rfl⟩
                have cG := HC.out.ans W1 true true (x1, x2, x3) (y1, y2, y3) bW1
                have cz := HC.out.one true true (x1, x2, x3) (y1, y2, y3)
                rw [hR] at cG cz
                simp only at cG cz
                have hv3 : v3.size ≤ big := by
                  rcases cz with h | h <;> (have h3 := congrArg (fun p : P3 => p.2.2) h; simp only at h3; rw [h3]; first | exact hx3 | exact hy3 | exact Nat.zero_le _)
                have HE : Hid (jn ch A B = (Os ++ (if tk then [(k, (v1, v2, v3))] else [])) ++ jn ch As Bs) := by
                  show _ = _
                  rw [H.out.1, HQ.out, put_fOf ch _ (some (x1, x2, x3)) (some (y1, y2, y3)) (v1, v2, v3) tk hR, List.append_assoc]
                have HL : Hid (As.length + Bs.length + Os.length + 1 ≤ 1048576) := by show _ ≤ _; have := H.out.2.1; simp at this ⊢; omega
                have HSm : Hid (Small As ∧ Small Bs) := ⟨by first | exact H.out.2.2.1 | exact small_tail H.out.2.2.1, by first | exact H.out.2.2.2 | exact small_tail H.out.2.2.2⟩
                clear hR cz
                refine cG.mono ?_; rintro r w3 ⟨rfl, b3⟩
                have b4 := bW1.trans (b3.mono bW1.size)
                have o3 := owns_below oW1.out b3
                clear cG b3 bW1
                cases tk with
                | false =>
                  have HO3 : Hid _ := o3
                  clear o3
                  go_wp2_with fail
                  go_roundw
                  case rel =>
                    refine ⟨As, Bs, Os, rest_row Hn.out (by omega) HR.out, rest_row0 (by have := Hn'.out; omega) (by omega), owns_below HO3.out ((Below.refl _ _).alloc (Nat.le_refl _) _), b4.alloc b4.size _, ?_⟩
                    refine ⟨?_, by have := HL.out; omega, HSm.out⟩
                    rw [HE.out]; simp
                  case measure => simp [lenV] <;> omega
                | true =>
                  have HO3 : Hid _ := o3
                  clear o3
                  go_wp2_with fail
                  have b5 := b4.alloc b4.size (.cells #[.int .i64 v1, .int .i64 v2, .string v3] 30)
                  refine (own_any k (v1, v2, v3) _ hk hv3).mono ?_; rintro r w5 ⟨rfl, b6⟩
                  have b7 := b5.trans (b6.mono b5.size)
                  have o5 := owns_below HO3.out (Below.trans ((Below.refl w3.heap.size w3).alloc (Nat.le_refl _) (.cells #[.int .i64 v1, .int .i64 v2, .string v3] 30)) (b6.mono (by simp)))
                  have o6 := owns_below o5 ((Below.refl w5.heap.size w5).alloc (Nat.le_refl _) (.cells #[.string k, .int .i64 v1, .int .i64 v2, .string v3] 154))
                  have hge : ∀ j, u7.ownBlock = some j → w.heap.size ≤ j := fun j hj => (owns_block o5 j hj).1
                  have hL1 : Os.length ≤ 1048676 := by have := HL.out; omega
                  clear o5 b6 b4 b5
                  go_wp2_with (at_builtin; refine wpList_append_at rfl (.tmp 93) (.tmp 97) rfl w.heap.size u7 Os rfl o6 w5.heap.size 1 (k, (v1, v2, v3)) rfl ⟨by simp, by simp, by simp, by simp⟩ hL1 (by have := b7.size; simp; omega) ?_; intro v' w6 own' gr')
                  have b8 := (b7.alloc b7.size (.cells #[.string k, .int .i64 v1, .int .i64 v2, .string v3] 154)).grown gr' (by have := b7.size; simp; omega) (fun j hj => hge j hj)
                  go_roundw
                  case rel =>
                    refine ⟨As, Bs, Os ++ [(k, (v1, v2, v3))], rest_row Hn.out (by omega) HR.out, rest_row0 (by have := Hn'.out; omega) (by omega), own', b8, ?_⟩
                    refine ⟨?_, by have := HL.out; rw [List.length_append]; simp; omega, HSm.out⟩
                    rw [HE.out]; simp
                  case measure => simp [lenV] <;> omega
              · have HQ : Hid (jn ch ((k, x1, x2, x3) :: As) ((k, y1, y2, y3) :: Bs) = putO k (fOf ch (some (x1, x2, x3)) (some (y1, y2, y3))) ++ jn ch As Bs) := (show jn ch ((k, x1, x2, x3) :: As) ((k, y1, y2, y3) :: Bs) = putO k (fOf ch (some (x1, x2, x3)) (some (y1, y2, y3))) ++ jn ch As Bs by rw [jn, joinL, if_neg l1, if_pos l2])
                go_wp2_with fail
                go_region
                go_wp2_with fail
                go_region
                go_wp2_with fail
                go_region
                go_wp2_with fail
                go_region
                go_wp2_with fail

                obtain ⟨W1, hW1⟩ : ∃ W1, W1 = (wr.alloc (.cells #[.bool true, .bool true, .int .i64 x1, .int .i64 x2, .string x3, .int .i64 y1, .int .i64 y2, .string y3] 216)).drew.drew.drew.drew := ⟨_, rfl⟩
                have bW1 : Below w.heap.size w W1 := by rw [hW1]; exact below_drewN (hbw.alloc hbw.size _) 4
                have oW1 : Hid (W1.ownsRow w.heap.size 154 4 u7 Os.length (cellsA Os)) := by
                  show World.ownsRow _ _ _ _ _ _ _
                  rw [hW1]; exact owns_below HO.out (below_drewN ((Below.refl _ _).alloc (Nat.le_refl _) _) 4)
                rw [← hW1]
                clear hW1
                obtain ⟨⟨⟨v1, v2, v3⟩, tk⟩, hR⟩ : ∃ R : P3 × Bool, ch true true (x1, x2, x3) (y1, y2, y3) = R := ⟨_, rfl⟩
                have cG := HC.out.ans W1 true true (x1, x2, x3) (y1, y2, y3) bW1
                have cz := HC.out.one true true (x1, x2, x3) (y1, y2, y3)
                rw [hR] at cG cz
                simp only at cG cz
                have hv3 : v3.size ≤ big := by
                  rcases cz with h | h <;> (have h3 := congrArg (fun p : P3 => p.2.2) h; simp only at h3; rw [h3]; first | exact hx3 | exact hy3 | exact Nat.zero_le _)
                have HE : Hid (jn ch A B = (Os ++ (if tk then [(k, (v1, v2, v3))] else [])) ++ jn ch As Bs) := by
                  show _ = _
                  rw [H.out.1, HQ.out, put_fOf ch _ (some (x1, x2, x3)) (some (y1, y2, y3)) (v1, v2, v3) tk hR, List.append_assoc]
                have HL : Hid (As.length + Bs.length + Os.length + 1 ≤ 1048576) := by show _ ≤ _; have := H.out.2.1; simp at this ⊢; omega
                have HSm : Hid (Small As ∧ Small Bs) := ⟨by first | exact H.out.2.2.1 | exact small_tail H.out.2.2.1, by first | exact H.out.2.2.2 | exact small_tail H.out.2.2.2⟩
                clear hR cz
                refine cG.mono ?_; rintro r w3 ⟨rfl, b3⟩
                have b4 := bW1.trans (b3.mono bW1.size)
                have o3 := owns_below oW1.out b3
                clear cG b3 bW1
                cases tk with
                | false =>
                  have HO3 : Hid _ := o3
                  clear o3
                  go_wp2_with fail
                  go_roundw
                  case rel =>
                    refine ⟨As, Bs, Os, rest_row Hn.out (by omega) HR.out, rest_row Hn'.out (by omega) HR2.out, owns_below HO3.out ((Below.refl _ _).alloc (Nat.le_refl _) _), b4.alloc b4.size _, ?_⟩
                    refine ⟨?_, by have := HL.out; omega, HSm.out⟩
                    rw [HE.out]; simp
                  case measure => simp [lenV] <;> omega
                | true =>
                  have HO3 : Hid _ := o3
                  clear o3
                  go_wp2_with fail
                  have b5 := b4.alloc b4.size (.cells #[.int .i64 v1, .int .i64 v2, .string v3] 30)
                  refine (own_any k (v1, v2, v3) _ hk hv3).mono ?_; rintro r w5 ⟨rfl, b6⟩
                  have b7 := b5.trans (b6.mono b5.size)
                  have o5 := owns_below HO3.out (Below.trans ((Below.refl w3.heap.size w3).alloc (Nat.le_refl _) (.cells #[.int .i64 v1, .int .i64 v2, .string v3] 30)) (b6.mono (by simp)))
                  have o6 := owns_below o5 ((Below.refl w5.heap.size w5).alloc (Nat.le_refl _) (.cells #[.string k, .int .i64 v1, .int .i64 v2, .string v3] 154))
                  have hge : ∀ j, u7.ownBlock = some j → w.heap.size ≤ j := fun j hj => (owns_block o5 j hj).1
                  have hL1 : Os.length ≤ 1048676 := by have := HL.out; omega
                  clear o5 b6 b4 b5
                  go_wp2_with (at_builtin; refine wpList_append_at rfl (.tmp 93) (.tmp 97) rfl w.heap.size u7 Os rfl o6 w5.heap.size 1 (k, (v1, v2, v3)) rfl ⟨by simp, by simp, by simp, by simp⟩ hL1 (by have := b7.size; simp; omega) ?_; intro v' w6 own' gr')
                  have b8 := (b7.alloc b7.size (.cells #[.string k, .int .i64 v1, .int .i64 v2, .string v3] 154)).grown gr' (by have := b7.size; simp; omega) (fun j hj => hge j hj)
                  go_roundw
                  case rel =>
                    refine ⟨As, Bs, Os ++ [(k, (v1, v2, v3))], rest_row Hn.out (by omega) HR.out, rest_row Hn'.out (by omega) HR2.out, own', b8, ?_⟩
                    refine ⟨?_, by have := HL.out; rw [List.length_append]; simp; omega, HSm.out⟩
                    rw [HE.out]; simp
                  case measure => simp [lenV] <;> omega

          · have q1 := leq_run (P := Tryz.prog) (t := 9) k k' false (by have := kc_gt l1 l2; simpa using this)
            have q2 := leq_run (P := Tryz.prog) (t := 9) k' k true (by simpa using l1)
            by_cases hc2 : c2 = 1
            · subst hc2
              have HQ : Hid (jn ch ((k, x1, x2, x3) :: As) ((k', y1, y2, y3) :: Bs) = putO k' (fOf ch none (some (y1, y2, y3))) ++ jn ch ((k, x1, x2, x3) :: As) Bs) := (show jn ch ((k, x1, x2, x3) :: As) ((k', y1, y2, y3) :: Bs) = putO k' (fOf ch none (some (y1, y2, y3))) ++ jn ch ((k, x1, x2, x3) :: As) Bs by rw [jn, joinL, if_neg l1, if_neg l2])
              go_wp2_with fail
              go_region
              go_wp2_with fail
              go_region
              go_wp2_with fail
              go_region
              go_wp2_with fail

              obtain ⟨W1, hW1⟩ : ∃ W1, W1 = (wr.alloc (.cells #[.bool false, .bool true, .int .i64 0, .int .i64 0, .string ⟨#[]⟩, .int .i64 y1, .int .i64 y2, .string y3] 216)).drew.drew.drew := ⟨_, rfl⟩
              have bW1 : Below w.heap.size w W1 := by rw [hW1]; exact below_drewN (hbw.alloc hbw.size _) 3
              have oW1 : Hid (W1.ownsRow w.heap.size 154 4 u7 Os.length (cellsA Os)) := by
                show World.ownsRow _ _ _ _ _ _ _
                rw [hW1]; exact owns_below HO.out (below_drewN ((Below.refl _ _).alloc (Nat.le_refl _) _) 3)
              rw [← hW1]
              clear hW1
              obtain ⟨⟨⟨v1, v2, v3⟩, tk⟩, hR⟩ : ∃ R : P3 × Bool, ch false true z0 (y1, y2, y3) = R := ⟨_, rfl⟩
              have cG := HC.out.ans W1 false true z0 (y1, y2, y3) bW1
              have cz := HC.out.one false true z0 (y1, y2, y3)
              rw [hR] at cG cz
              simp only at cG cz
              have hv3 : v3.size ≤ big := by
                rcases cz with h | h <;> (have h3 := congrArg (fun p : P3 => p.2.2) h; simp only at h3; rw [h3]; first | exact hx3 | exact hy3 | exact Nat.zero_le _)
              have HE : Hid (jn ch A B = (Os ++ (if tk then [(k', (v1, v2, v3))] else [])) ++ jn ch ((k, x1, x2, x3) :: As) Bs) := by
                show _ = _
                rw [H.out.1, HQ.out, put_fOf ch _ none (some (y1, y2, y3)) (v1, v2, v3) tk hR, List.append_assoc]
              have HL : Hid (((k, x1, x2, x3) :: As).length + Bs.length + Os.length + 1 ≤ 1048576) := by show _ ≤ _; have := H.out.2.1; simp at this ⊢; omega
              have HSm : Hid (Small ((k, x1, x2, x3) :: As) ∧ Small Bs) := ⟨by first | exact H.out.2.2.1 | exact small_tail H.out.2.2.1, by first | exact H.out.2.2.2 | exact small_tail H.out.2.2.2⟩
              clear hR cz
              refine cG.mono ?_; rintro r w3 ⟨rfl, b3⟩
              have b4 := bW1.trans (b3.mono bW1.size)
              have o3 := owns_below oW1.out b3
              clear cG b3 bW1
              cases tk with
              | false =>
                have HO3 : Hid _ := o3
                clear o3
                go_wp2_with fail
                go_roundw
                case rel =>
                  refine ⟨((k, x1, x2, x3) :: As), Bs, Os, (by have h := HA0.out; rw [Hn.out] at h; exact h), rest_row0 (by have := Hn'.out; omega) (by omega), owns_below HO3.out ((Below.refl _ _).alloc (Nat.le_refl _) _), b4.alloc b4.size _, ?_⟩
                  refine ⟨?_, by have := HL.out; omega, HSm.out⟩
                  rw [HE.out]; simp
                case measure => simp [lenV] <;> omega
              | true =>
                have HO3 : Hid _ := o3
                clear o3
                go_wp2_with fail
                have b5 := b4.alloc b4.size (.cells #[.int .i64 v1, .int .i64 v2, .string v3] 30)
                refine (own_any k' (v1, v2, v3) _ hk' hv3).mono ?_; rintro r w5 ⟨rfl, b6⟩
                have b7 := b5.trans (b6.mono b5.size)
                have o5 := owns_below HO3.out (Below.trans ((Below.refl w3.heap.size w3).alloc (Nat.le_refl _) (.cells #[.int .i64 v1, .int .i64 v2, .string v3] 30)) (b6.mono (by simp)))
                have o6 := owns_below o5 ((Below.refl w5.heap.size w5).alloc (Nat.le_refl _) (.cells #[.string k', .int .i64 v1, .int .i64 v2, .string v3] 154))
                have hge : ∀ j, u7.ownBlock = some j → w.heap.size ≤ j := fun j hj => (owns_block o5 j hj).1
                have hL1 : Os.length ≤ 1048676 := by have := HL.out; omega
                clear o5 b6 b4 b5
                go_wp2_with (at_builtin; refine wpList_append_at rfl (.tmp 93) (.tmp 97) rfl w.heap.size u7 Os rfl o6 w5.heap.size 1 (k', (v1, v2, v3)) rfl ⟨by simp, by simp, by simp, by simp⟩ hL1 (by have := b7.size; simp; omega) ?_; intro v' w6 own' gr')
                have b8 := (b7.alloc b7.size (.cells #[.string k', .int .i64 v1, .int .i64 v2, .string v3] 154)).grown gr' (by have := b7.size; simp; omega) (fun j hj => hge j hj)
                go_roundw
                case rel =>
                  refine ⟨((k, x1, x2, x3) :: As), Bs, Os ++ [(k', (v1, v2, v3))], (by have h := HA0.out; rw [Hn.out] at h; exact h), rest_row0 (by have := Hn'.out; omega) (by omega), own', b8, ?_⟩
                  refine ⟨?_, by have := HL.out; rw [List.length_append]; simp; omega, HSm.out⟩
                  rw [HE.out]; simp
                case measure => simp [lenV] <;> omega
            · have HQ : Hid (jn ch ((k, x1, x2, x3) :: As) ((k', y1, y2, y3) :: Bs) = putO k' (fOf ch none (some (y1, y2, y3))) ++ jn ch ((k, x1, x2, x3) :: As) Bs) := (show jn ch ((k, x1, x2, x3) :: As) ((k', y1, y2, y3) :: Bs) = putO k' (fOf ch none (some (y1, y2, y3))) ++ jn ch ((k, x1, x2, x3) :: As) Bs by rw [jn, joinL, if_neg l1, if_neg l2])
              go_wp2_with fail
              go_region
              go_wp2_with fail
              go_region
              go_wp2_with fail
              go_region
              go_wp2_with fail

              obtain ⟨W1, hW1⟩ : ∃ W1, W1 = (wr.alloc (.cells #[.bool false, .bool true, .int .i64 0, .int .i64 0, .string ⟨#[]⟩, .int .i64 y1, .int .i64 y2, .string y3] 216)).drew.drew.drew := ⟨_, rfl⟩
              have bW1 : Below w.heap.size w W1 := by rw [hW1]; exact below_drewN (hbw.alloc hbw.size _) 3
              have oW1 : Hid (W1.ownsRow w.heap.size 154 4 u7 Os.length (cellsA Os)) := by
                show World.ownsRow _ _ _ _ _ _ _
                rw [hW1]; exact owns_below HO.out (below_drewN ((Below.refl _ _).alloc (Nat.le_refl _) _) 3)
              rw [← hW1]
              clear hW1
              obtain ⟨⟨⟨v1, v2, v3⟩, tk⟩, hR⟩ : ∃ R : P3 × Bool, ch false true z0 (y1, y2, y3) = R := ⟨_, rfl⟩
              have cG := HC.out.ans W1 false true z0 (y1, y2, y3) bW1
              have cz := HC.out.one false true z0 (y1, y2, y3)
              rw [hR] at cG cz
              simp only at cG cz
              have hv3 : v3.size ≤ big := by
                rcases cz with h | h <;> (have h3 := congrArg (fun p : P3 => p.2.2) h; simp only at h3; rw [h3]; first | exact hx3 | exact hy3 | exact Nat.zero_le _)
              have HE : Hid (jn ch A B = (Os ++ (if tk then [(k', (v1, v2, v3))] else [])) ++ jn ch ((k, x1, x2, x3) :: As) Bs) := by
                show _ = _
                rw [H.out.1, HQ.out, put_fOf ch _ none (some (y1, y2, y3)) (v1, v2, v3) tk hR, List.append_assoc]
              have HL : Hid (((k, x1, x2, x3) :: As).length + Bs.length + Os.length + 1 ≤ 1048576) := by show _ ≤ _; have := H.out.2.1; simp at this ⊢; omega
              have HSm : Hid (Small ((k, x1, x2, x3) :: As) ∧ Small Bs) := ⟨by first | exact H.out.2.2.1 | exact small_tail H.out.2.2.1, by first | exact H.out.2.2.2 | exact small_tail H.out.2.2.2⟩
              clear hR cz
              refine cG.mono ?_; rintro r w3 ⟨rfl, b3⟩
              have b4 := bW1.trans (b3.mono bW1.size)
              have o3 := owns_below oW1.out b3
              clear cG b3 bW1
              cases tk with
              | false =>
                have HO3 : Hid _ := o3
                clear o3
                go_wp2_with fail
                go_roundw
                case rel =>
                  refine ⟨((k, x1, x2, x3) :: As), Bs, Os, (by have h := HA0.out; rw [Hn.out] at h; exact h), rest_row Hn'.out (by omega) HR2.out, owns_below HO3.out ((Below.refl _ _).alloc (Nat.le_refl _) _), b4.alloc b4.size _, ?_⟩
                  refine ⟨?_, by have := HL.out; omega, HSm.out⟩
                  rw [HE.out]; simp
                case measure => simp [lenV] <;> omega
              | true =>
                have HO3 : Hid _ := o3
                clear o3
                go_wp2_with fail
                have b5 := b4.alloc b4.size (.cells #[.int .i64 v1, .int .i64 v2, .string v3] 30)
                refine (own_any k' (v1, v2, v3) _ hk' hv3).mono ?_; rintro r w5 ⟨rfl, b6⟩
                have b7 := b5.trans (b6.mono b5.size)
                have o5 := owns_below HO3.out (Below.trans ((Below.refl w3.heap.size w3).alloc (Nat.le_refl _) (.cells #[.int .i64 v1, .int .i64 v2, .string v3] 30)) (b6.mono (by simp)))
                have o6 := owns_below o5 ((Below.refl w5.heap.size w5).alloc (Nat.le_refl _) (.cells #[.string k', .int .i64 v1, .int .i64 v2, .string v3] 154))
                have hge : ∀ j, u7.ownBlock = some j → w.heap.size ≤ j := fun j hj => (owns_block o5 j hj).1
                have hL1 : Os.length ≤ 1048676 := by have := HL.out; omega
                clear o5 b6 b4 b5
                go_wp2_with (at_builtin; refine wpList_append_at rfl (.tmp 93) (.tmp 97) rfl w.heap.size u7 Os rfl o6 w5.heap.size 1 (k', (v1, v2, v3)) rfl ⟨by simp, by simp, by simp, by simp⟩ hL1 (by have := b7.size; simp; omega) ?_; intro v' w6 own' gr')
                have b8 := (b7.alloc b7.size (.cells #[.string k', .int .i64 v1, .int .i64 v2, .string v3] 154)).grown gr' (by have := b7.size; simp; omega) (fun j hj => hge j hj)
                go_roundw
                case rel =>
                  refine ⟨((k, x1, x2, x3) :: As), Bs, Os ++ [(k', (v1, v2, v3))], (by have h := HA0.out; rw [Hn.out] at h; exact h), rest_row Hn'.out (by omega) HR2.out, own', b8, ?_⟩
                  refine ⟨?_, by have := HL.out; rw [List.length_append]; simp; omega, HSm.out⟩
                  rw [HE.out]; simp
                case measure => simp [lenV] <;> omega
end Go.Proofs.YtplnojapnaaakaaGreatDoor
