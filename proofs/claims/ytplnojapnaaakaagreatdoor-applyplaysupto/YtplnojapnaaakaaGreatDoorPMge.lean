/- What Each's function hands over, for whatever loop body. A piece cut in two. The Walker's calls. A piece cut in two; a piece taken. What a Walker takes. What vellumref04.Refuse and Check answer: what an insert is refused with. What vellumref04.copied and vellumref04.Join answer. What vellumref04.Length answers of inserts. What vellumref04.Length, Cells and Newlines answer of inserts. The document's deltas: Same, SameOp, Insert, Len. The document's deltas: Len. vellumhand.Make, Is; vellumlaw06's gone, text, large, lives. vellumlaw06.lives answers true. Canonical lists of operations in order are in order. Next and Rest of a Walker. One step of two Walkers. What Steps' function hands over, for whatever loop body. vellumref04.SameOps and vellumspare.Kept at operations that are the same. vellumspare.Attrs: a copy with a mark behind its end. vellumspare.Copy: operations as new memory, with spare room. The document's deltas: push: an operation put behind others. -/
import Derived.RangeFuncNested
import Derived.RangeFuncBound
import Derived.RangeFuncCalls
import Derived.RangeFuncLeaves
import Derived.Shelf.Abstract
import Derived.Shelf.RegionOpen
import Derived.WalkKit
import Derived.OwnWalkIn
import Derived.TacticsInMore
import Derived.LoopNIn
import Derived.LoopIn
import Derived.Test.YtplnojapnaaakaaGreatDoorPMgd
import Derived.Test.YtplnojapnaaakaaGreatDoorPMgc
import Derived.Test.YtplnojapnaaakaaGreatDoorPCf
import Derived.Test.YtplnojapnaaakaaGreatDoorPCp
import Derived.BigRegion
import Derived.Deep.RegionHeld3
import Derived.Deep.DeepCutAuto
import Derived.Test.YtplnojapnaaakaaGreatDoorPSw
import Derived.Test.YtplnojapnaaakaaGreatDoorPMga
import Derived.Test.YtplnojapnaaakaaGreatDoorPSpo
import Derived.Test.YtplnojapnaaakaaGreatDoorPMgb
import Derived.OneCell

/- What Each's function hands over, for whatever loop body. -/
namespace Go.Proofs.YtplnojapnaaakaaGreatDoor
open Go Go.RowKit Go.Lib Go.Shelf
set_option linter.unusedVariables false
attribute [local go_sem] Oper.semAt_some
/-- A delta in a box. -/
def BoxD (w : World) (x : Nat) (B1 B2 : Nat) (E : List Op5) : Prop := ∃ v, w.cell? ⟨x, 0, none⟩ = some v ∧ DelV w B1 B2 v E
theorem BoxD.below {w w' : World} {x B1 B2 : Nat} {E : List Op5} (h : BoxD w x B1 B2 E) (b : Below w.heap.size w w') : BoxD w' x B1 B2 E := by
  obtain ⟨v, h1, h2⟩ := h
  exact ⟨v, (b.cell (lt_of_cell h1)).trans h1, h2.below b⟩
theorem each7_call {B1 B2 : Nat} (v : Value) (E : List Op5) (w : World) (h : DelV w B1 B2 v E) :
    Calls Tryz.prog 61 #[v] w fun r w' => ∃ x, r = .returned (.func (.func 93) #[] #[.pointer (some ⟨x, 0, none⟩)]) ∧ BoxD w' x B1 B2 E ∧ w.heap.size ≤ x ∧ Below w.heap.size w w' := by
  have bA : Below w.heap.size w (w.alloc (.cells #[v] 36)) := (Below.refl _ _).alloc (Nat.le_refl _) _
  have HD : Hid (DelV (w.alloc (.cells #[v] 36)) B1 B2 v E) := h.below bA
  obtain ⟨q, pv, PL, rfl, _⟩ := h
  go_enter Tryz.func61, Tryz.ntmps61
  go_wp2
  go_ret
  exact ⟨_, rfl, ⟨_, by simp, HD.out⟩, Nat.le_refl _, bA⟩

/-- A piece that is handed over, the blocks among which its list lies. -/
abbrev PZ : Type := Value × Nat × Nat
abbrev encZ (x : PZ) : Array Value := #[x.1]
def GZ (E : List Op5) (B0 : Nat) (pre : List PZ) (x : PZ) (W : World) : Prop := ∃ e s, E[pre.length]? = some e ∧ x.1 = pieceQ e s ∧ InA W x.2.1 x.2.2 s e.A ∧ B0 ≤ x.2.1 ∧ x.2.2 ≤ W.heap.size
/-- What a round keeps: the pieces, and all lists but the one that was handed over. -/
structure KZ (pre : List PZ) (x : PZ) (A A' : World) : Prop where
  size : A.heap.size ≤ A'.heap.size
  pie : ∀ (k : Nat) (cs : Array Value), A.heap[k]? = some (.cells cs 56 (0, 0)) → A'.heap[k]? = some (.cells cs 56 (0, 0))
  att : ∀ (k : Nat) (cs : Array Value), A.heap[k]? = some (.cells cs 154 (0, 0)) → (k < x.2.1 ∨ x.2.2 ≤ k) → A'.heap[k]? = some (.cells cs 154 (0, 0))
theorem ina_same {w w' : World} {lo hi : Nat} {v : Value} {A : List A2} (h : InA w lo hi v A) (hk : ∀ (k : Nat) (cs : Array Value), w.heap[k]? = some (.cells cs 154 (0, 0)) → lo ≤ k → k < hi → w'.heap[k]? = some (.cells cs 154 (0, 0))) : InA w' lo hi v A := by
  obtain ⟨h1, h2⟩ := h
  refine ⟨owns_same h1 fun k e => ?_, h2⟩
  obtain ⟨b1, cs, b2⟩ := owns_block h1 k e
  rw [b2]
  exact hk k cs b2 b1 (h2 k e)
theorem GZ.bk {E : List Op5} {B0 B : Nat} {pre : List PZ} {x : PZ} {A A' : World} (h : GZ E B0 pre x A) (k : Bk7 B A A') : GZ E B0 pre x A' := by
  obtain ⟨e, s, h1, h2, h3, h4, h5⟩ := h
  exact ⟨e, s, h1, h2, ina_same h3 fun j cs hj _ _ => k.kept j _ hj (.inr rfl), h4, Nat.le_trans h5 k.size⟩
theorem KZ.bk {B : Nat} {pre : List PZ} {x : PZ} {A A' C C' : World} (k1 : Bk7 B A A') (h : KZ pre x A' C) (k2 : Bk7 B C C') : KZ pre x A C' :=
  ⟨Nat.le_trans k1.size (Nat.le_trans h.size k2.size), fun k cs hk => k2.kept k _ (h.pie k cs (k1.kept k _ hk (.inr rfl))) (.inr rfl), fun k cs hk ho => k2.kept k _ (h.att k cs (k1.kept k _ hk (.inr rfl)) ho) (.inr rfl)⟩
set_option maxHeartbeats 4000000 in
set_option maxRecDepth 100000 in
theorem each7_seq (E : List Op5) (w0 : World) (x B1 B2 : Nat) (hT : BoxD w0 x B1 B2 E) (hg : ∀ o ∈ E, opE o = 0) (hA : ∀ o ∈ E, o.A.length ≤ 2097152) (hl : E.length ≤ 4194304) (n : Nat) (hn : 2 ≤ n) :
    SeqG Fence.wide n Tryz.prog 93 #[.pointer (some ⟨x, 0, none⟩)] encZ (fun _ => False) (GZ E w0.heap.size) KZ (fun xs => xs.length = E.length) w0 := fun l J Jx W hW hJ hJx hY h0 => by
  obtain ⟨v, hx, hd⟩ := hT
  have c0 : W.cell? ⟨x, 0, none⟩ = some v := (hW.cell (lt_of_cell hx)).trans hx
  have cP := piecesZ_any v E W (hd.below hW) hg hA hl
  have hz0 : w0.heap.size ≤ W.heap.size := hW.size
  obtain ⟨m, hm⟩ : ∃ m, E.length = m := ⟨_, rfl⟩
  have HM : Hid (E.length = m) := hm
  have HJ : Hid (∀ p W1 W2, J p W1 → Below W1.heap.size W1 W2 → J p W2) := fun p W1 W2 h1 h2 => hJ p W1 W2 h1 (It7.of_below h2)
  have HY : Hid (∀ pre x W1, J pre W1 → GZ E w0.heap.size pre x W1 → YieldAt Fence.wide (n - 1) Tryz.prog l (encZ x) W1 fun e W' =>
      (e = .returned (.bool true) ∧ J (pre ++ [x]) W' ∧ KZ pre x W1 W') ∨ (e = .returned (.bool false) ∧ Jx (pre ++ [x]) W')) := hY
  rw [hm] at hl ⊢
  clear hY hJ hJx hx hd hg hA hW hm
  refine callsIn_of_wp Tryz.func93 rfl trivial ?_ rfl
  simp only [Tryz.ntmps93, List.size_toArray, List.length_cons, List.length_nil, Nat.reduceAdd, Nat.reduceSub, Array.replicate_succ, Array.replicate_zero, List.push_toArray, List.append_toArray, List.nil_append, List.cons_append]
  gi_wp2
  refine ⟨trivial, (fun _ => Nat.le_trans (by decide) hn), (callsIn_wide.2 cP).mono ?_⟩
  rintro r w2 ⟨v', rfl, ⟨P, own, Z, hZ, hP⟩, hb2⟩
  have hPE : P.length = m := hP.1.trans HM.out
  obtain ⟨p, cap, hv⟩ := own_slice own
  have H2 : Hid (OwnI w2 W.heap.size v' P ∧ ∀ (j : Nat) (x : Value) (e : Op5), 0 ≤ j → P[j]? = some x → E[j]? = some e → ∃ s, x = pieceQ e s ∧ InA w2 (Z j) (Z (j + 1)) s e.A) := ⟨own, fun j x e _ h1 h2 => hP.2 j x e h1 h2⟩
  have HZ : Hid (MonZ W.heap.size w2.heap.size m Z ∧ w0.heap.size ≤ W.heap.size) := (by rw [HM.out] at hZ; exact ⟨hZ, hz0⟩)
  have HPL : Hid (P.length = m) := hPE
  have hJ2 := HJ.out _ _ _ h0 hb2
  rw [hPE] at hv
  subst hv
  have hN : Hid (2 ≤ n) := hn
  clear cP c0 own hZ hP hb2 h0 hPE hz0 hn
  gi_wp2
  gi_loopw [4, 8] (fun _ i wr => ∃ (k : Nat) (xs : List PZ), k ≤ m ∧ i = .int .i64 (k : Nat) ∧ xs.length = k ∧ J xs wr ∧ w2.heap.size ≤ wr.heap.size ∧ Hid (OwnI wr W.heap.size (.slice p m cap) P ∧ ∀ (j : Nat) (x : Value) (e : Op5), k ≤ j → P[j]? = some x → E[j]? = some e → ∃ s, x = pieceQ e s ∧ InA wr (Z j) (Z (j + 1)) s e.A)) (fun _ i _ => m - (RowKit.intOf i).toNat)
  case atStart => exact ⟨0, [], Nat.zero_le _, rfl, rfl, hJ2, Nat.le_refl _, H2⟩
  case round =>
    clear hJ2 H2
    obtain ⟨k, xs, hk, rfl, hxs, hJk, hsz, H⟩ := hrel
    by_cases hlt : k < m
    · have hltI : (k : Int) < (m : Int) := by omega
      obtain ⟨gP, cP, xv, hv', _, hxv, hcx⟩ := own_cell H.out.1 k (by rw [HPL.out]; exact hlt)
      simp only [Value.slice.injEq] at hv'
      obtain ⟨rfl, -, rfl⟩ := hv'
      obtain ⟨e, he⟩ : ∃ e, E[k]? = some e := ⟨_, List.getElem?_eq_getElem (by rw [HM.out]; exact hlt)⟩
      obtain ⟨s, hxs', hin⟩ := H.out.2 k xv e (Nat.le_refl _) hxv he
      have hG : GZ E w0.heap.size xs (xv, Z k, Z (k + 1)) wr := ⟨e, s, by rw [hxs]; exact he, hxs', hin, by
        have := HZ.out.1.le (Nat.zero_le k); rw [HZ.out.1.zero] at this; have := HZ.out.2; show _ ≤ Z k; omega, by
        have := HZ.out.1.le (show k + 1 ≤ m from hlt); have := HZ.out.1.top; show Z (k + 1) ≤ _; omega⟩
      have hYk := HY.out xs (xv, Z k, Z (k + 1)) wr hJk hG
      obtain ⟨u, y, hux⟩ := pieceQ_if e s
      rw [hux] at hxs'
      subst hxs'
      have HQ : Hid (xs.length = k ∧ k + 1 ≤ m ∧ w2.heap.size ≤ wr.heap.size) := ⟨hxs, hlt, hsz⟩
      obtain ⟨fn, tm, asg, bo, hy, hR⟩ := hYk
      clear hJk hxv he hin hG hux hxs hk hlt hsz
      gi_wp2
      refine ⟨(fun _ => Nat.le_trans (by decide) hN.out), hR.mono ?_⟩
      rintro e' W3 (⟨rfl, hJ3, hk3⟩ | ⟨rfl, hJx3⟩)
      · have H3 : Hid (OwnI W3 W.heap.size (.slice (some ⟨gP, 0, none⟩) m cap) P ∧ ∀ (j : Nat) (x : Value) (e : Op5), k + 1 ≤ j → P[j]? = some x → E[j]? = some e → ∃ s, x = pieceQ e s ∧ InA W3 (Z j) (Z (j + 1)) s e.A) := by
          refine ⟨owns_same H.out.1 fun b hb => ?_, fun j x e' hj h1 h2 => ?_⟩
          · obtain ⟨_, cs, hcs⟩ := owns_block H.out.1 b hb
            rw [hcs]; exact hk3.pie b cs hcs
          · obtain ⟨s', e1, e2⟩ := H.out.2 j x e' (by omega) h1 h2
            exact ⟨s', e1, ina_same e2 fun b cs hb hlo _ => hk3.att b cs hb (.inr (Nat.le_trans (HZ.out.1.le hj) hlo))⟩
        have HS3 : Hid (w2.heap.size ≤ W3.heap.size) := Nat.le_trans HQ.out.2.2 hk3.size
        clear hk3 H
        gi_wp2
        go_roundw
        case rel => exact ⟨k + 1, xs ++ [(.iface u y, Z k, Z (k + 1))], HQ.out.2.1, by go_num, by rw [List.length_append, HQ.out.1]; rfl, hJ3, HS3.out, H3⟩
        case measure => simp [RowKit.intOf]; have := HQ.out.2.1; omega
      · gi_wp2
        refine bodyPost_ret (results_none rfl _ _ _) rfl ?_
        exact ⟨⟨_, rfl⟩, .inr ⟨_, hJx3⟩⟩
    · have hltI : ¬ (k : Int) < (m : Int) := by omega
      have hkm : xs.length = m := by omega
      clear H
      gi_wp2
      go_end0
      exact ⟨⟨_, rfl⟩, .inl ⟨xs, hkm, hJk⟩⟩
end Go.Proofs.YtplnojapnaaakaaGreatDoor

/- A piece cut in two. -/
namespace Go.Proofs.YtplnojapnaaakaaGreatDoor
open Go Go.RowKit Go.Lib
set_option linter.unusedVariables false
theorem heap_drw7 (W : World) (k : Nat) : W.drew.heap[k]? = W.heap[k]? := rfl
theorem box3 (w : World) (o : Array Value) (T : TypeId) (W : World) (hW : (((w.alloc (.cells o T)).alloc (.cells o T)).alloc (.cells o T)).drew = W) : W.heap[w.heap.size + 1]? = some (.cells o T (0, 0)) ∧ W.heap[w.heap.size + 1 + 1]? = some (.cells o T (0, 0)) ∧ Below (w.heap.size + 1) (w.alloc (.cells o T)) W := by
  subst hW
  have e1 := heap_alloc_new (w.alloc (.cells o T)) (.cells o T)
  have e2 := heap_alloc_new ((w.alloc (.cells o T)).alloc (.cells o T)) (.cells o T)
  simp only [World.size_alloc] at e1 e2
  refine ⟨?_, e2, ?_⟩
  · exact ((Below.refl ((w.alloc (.cells o T)).alloc (.cells o T)).heap.size _).alloc (Nat.le_refl _) _).block (w.heap.size + 1) (by simp) |>.trans e1
  · exact (((Below.refl (w.alloc (.cells o T)).heap.size _).alloc (Nat.le_refl _) _).alloc (by simp) _).drew.mono (by simp)
set_option maxHeartbeats 2000000 in
set_option maxRecDepth 100000 in
theorem cutText_any (p : Option Addr) (l c : Nat) (t : ByteArray) (N : Int) (A : List A2) (rs : List Nat) (m : Nat) (w : World) (hR : RN w (.slice p l c) A) (hl : A.length ≤ 2097152)
    (hv : t.data.toList = encs rs) (hs : ∀ r ∈ rs, scal r) (hm : m ≤ rs.length) (ht : t.size ≤ 8388608) (hrl : rs.length ≤ t.size) (hN : (m : Int) ≤ N) (hN2 : N ≤ 8388608) :
    Calls Tryz.prog 127 #[.agg #[.slice p l c, .string t, .int .i64 N], .int .i64 m] w fun r w' => ∃ p' c', r = .returned (.tuple #[.iface 183 (.agg #[.slice p' A.length c', .string (t.extract 0 (pos rs m)), .int .i64 m]), .iface 183 (.agg #[.slice p l c, .string (t.extract (pos rs m) t.size), .int .i64 (N - m)])]) ∧ OwnA w' w.heap.size (.slice p' A.length c') A ∧ Below w.heap.size w w' := by
  have cP := fun W => placeOf_any t rs m W hv hs hm (by omega) hrl
  have cA := fun W (hW : Below w.heap.size w W) => attributes_any (.slice p l c) A W (hR.below hW).row hR.nz hl
  have hpt : pos rs m ≤ t.size := by have := pos_le rs m; have := size_toList t; rw [hv] at this; omega
  obtain ⟨x, hx⟩ : ∃ x, pos rs m = x := ⟨_, rfl⟩
  rw [hx] at hpt
  simp only [hx] at cP ⊢
  clear hR hl hv hs hx hrl
  go_enter Tryz.func127, Tryz.ntmps127
  go_upto_region 1 with fail
  go_cut [6, 7] (fun x6 x7 wx => ∃ X Y, x6 = .pointer (some ⟨X, 0, none⟩) ∧ x7 = .pointer (some ⟨Y, 0, none⟩) ∧ X ≠ Y ∧ w.heap.size < X ∧ w.heap.size < Y ∧ wx.heap[X]? = some (.cells #[.slice p l c, .string t, .int .i64 N] 183 (0, 0)) ∧ wx.heap[Y]? = some (.cells #[.slice p l c, .string t, .int .i64 N] 183 (0, 0)) ∧ Below (w.heap.size + 1) (w.alloc (.cells #[.slice p l c, .string t, .int .i64 N] 183)) wx)
  case first =>
    go_region
    all_goals (try go_wp2)
    all_goals go_meet
    all_goals obtain ⟨h1, h2, hB⟩ := box3 w _ _ _ rfl
    · exact ⟨_, _, rfl, rfl, by omega, by omega, by omega, h1, h2, hB⟩
    · exact ⟨_, _, rfl, rfl, by omega, by omega, by omega, h2, h1, hB⟩
  case rest =>
    obtain ⟨X, Y, rfl, rfl, nXY, lX, lY, hX, hY, hB⟩ := hcut
    have hb0 : Below w.heap.size w wc := ((Below.refl _ w).alloc (Nat.le_refl _) _).trans (hB.mono (by omega))
    have k0 : wc.heap[w.heap.size]? = some (.cells #[.slice p l c, .string t, .int .i64 N] 183 (0, 0)) := (hB.block _ (by omega)).trans (heap_alloc_new w _)
    have zX := (Array.getElem?_eq_some_iff.1 hX).1
    have zY := (Array.getElem?_eq_some_iff.1 hY).1
    have d1 : wc.cell? ⟨w.heap.size, 1, none⟩ = some (.string t) := by rw [cell_of_heap k0]; rfl
    go_wp2_with fail
    refine (cP _).mono ?_; rintro r w2 ⟨rfl, hb2⟩
    have b2 := hb0.trans (hb2.mono hb0.size)
    have m0 := heap_below hb2 k0
    have mX := heap_below hb2 hX
    have mY := heap_below hb2 hY
    clear d1 k0 hX hY hb0
    have d0 : w2.cell? ⟨w.heap.size, 0, none⟩ = some (.slice p l c) := by rw [cell_of_heap m0]; rfl
    go_wp2_with fail
    refine (cA _ b2).mono ?_; rintro r w3 ⟨v', rfl, own3, hb3⟩
    obtain ⟨p', c', rfl⟩ := own_slice own3
    have b3 := b2.trans (hb3.mono b2.size)
    have q0 := heap_below hb3 m0
    have qX := heap_below hb3 mX
    have qY := heap_below hb3 mY
    have d1 : w3.cell? ⟨w.heap.size, 1, none⟩ = some (.string t) := by rw [cell_of_heap q0]; rfl
    have x0 : w3.cell? ⟨X, 0, none⟩ = some (.slice p l c) := by rw [cell_of_heap qX]; rfl
    have x1 : w3.cell? ⟨X, 1, none⟩ = some (.string t) := by rw [cell_of_heap qX]; rfl
    have x2 : w3.cell? ⟨X, 2, none⟩ = some (.int .i64 N) := by rw [cell_of_heap qX]; rfl
    have y0 : w3.cell? ⟨Y, 0, none⟩ = some (.slice p l c) := by rw [cell_of_heap qY]; rfl
    have y1 : w3.cell? ⟨Y, 1, none⟩ = some (.string t) := by rw [cell_of_heap qY]; rfl
    have y2 : w3.cell? ⟨Y, 2, none⟩ = some (.int .i64 N) := by rw [cell_of_heap qY]; rfl
    have g0 : w3.frozen? ⟨X, 0, none⟩ = false := frozen_of_heap qX 0
    have g1 : w3.frozen? ⟨X, 1, none⟩ = false := frozen_of_heap qX 1
    have g2 : w3.frozen? ⟨X, 2, none⟩ = false := frozen_of_heap qX 2
    have k1 : w3.frozen? ⟨Y, 1, none⟩ = false := frozen_of_heap qY 1
    have k2 : w3.frozen? ⟨Y, 2, none⟩ = false := frozen_of_heap qY 2
    have n1 : ¬ X = w.heap.size := by omega
    have n2 : ¬ w.heap.size = X := by omega
    have n3 : ¬ Y = w.heap.size := by omega
    have n4 : ¬ w.heap.size = Y := by omega
    have n5 : ¬ X = Y := nXY
    have n6 : ¬ Y = X := Ne.symm nXY
    have z1 : w.heap.size ≤ X := by omega
    have z2 : w.heap.size ≤ Y := by omega
    have z3 : w.heap.size ≤ w2.heap.size := b2.size
    have hxt : (x : Int) ≤ t.size := by omega
    have hs3 : Hid (OwnA w3 w.heap.size (.slice p' A.length c') A ∧ (∀ k, (Value.slice p' A.length c').ownBlock = some k → k ≠ X ∧ k ≠ Y)) := ⟨own_weaken own3 z3, fun k hk => by have h1 := (owns_block own3 k hk).1; have := (Array.getElem?_eq_some_iff.1 mX).1; have := (Array.getElem?_eq_some_iff.1 mY).1; omega⟩
    have HB3 : Hid (Below w.heap.size w w3) := b3
    clear q0 qX qY m0 mX mY own3 hb3 b3 b2 hb2 d0 lX lY nXY hB zX zY cP cA
    go_wp2
    go_region
    go_wp2
    go_region
    go_wp2
    go_ret2
    refine ⟨p', c', rfl, ?_, ?_⟩
    · exact owns_same hs3.out.1 (fun k hk => by
        obtain ⟨e1, e2⟩ := hs3.out.2 k hk
        repeat (with_reducible first | (refine (heap_drw7 _ _).trans ?_) | (refine (Below.heap_setCell _ _ _ _ e1).trans ?_) | (refine (Below.heap_setCell _ _ _ _ e2).trans ?_) | rfl))
    · repeat (with_reducible first | exact HB3.out | (refine Below.drew ?_) | (refine Below.setCell ?_ (p := ⟨X, _, none⟩) z1 _) | (refine Below.setCell ?_ (p := ⟨Y, _, none⟩) z2 _))
end Go.Proofs.YtplnojapnaaakaaGreatDoor

/- The Walker's calls. -/
namespace Go.Proofs.YtplnojapnaaakaaGreatDoor
open Go Go.RowKit Go.Lib
set_option linter.unusedVariables false
theorem as_i_e7 (v : Value) (W : World) : (Instr.typeAssert (.iface 183 v) 56 187 true).run Tryz.prog W = .ok (.tuple #[.agg #[.slice none 0 0, .string ⟨#[]⟩, .nilIface], .bool false]) W := by kernel_rfl
/-- What comes next. -/
def top7 : List Op5 → Op5
  | [] => pl7 1099511627776
  | x :: _ => x
theorem top_left (R : List Op5) : len5 (top7 R) = left7 R := by
  cases R with
  | nil => exact (pl_good (by omega) (by omega)).2
  | cons x r => rfl
theorem top_kind (R : List Op5) : (top7 R).k = kind7 R := by cases R <;> rfl
theorem top_good {R : List Op5} (h : ∀ o ∈ R, opE o = 0) : opE (top7 R) = 0 := by
  cases R with
  | nil => exact (pl_good (by omega) (by omega)).1
  | cons x r => exact h x (List.mem_cons_self ..)
theorem pieceQ_pl (n : Int) : pieceQ (pl7 n) (.slice none 0 0) = .iface 151 (.agg #[.slice none 0 0, .int .i64 n]) := pieceQ_3 rfl
set_option maxHeartbeats 2000000 in
set_option maxRecDepth 100000 in
theorem next7_any {B q g : Nat} {R : List Op5} (w : World) (h : WkV w B q g R) :
    Calls Tryz.prog 92 #[.pointer (some ⟨q, 0, none⟩)] w fun r w' => ∃ s, r = .returned (pieceQ (top7 R) s) ∧ OwnA w' B s (top7 R).A ∧ Below w.heap.size w w' := by
  have cD := doneW_any w h
  cases R with
  | nil =>
    rw [decide_eq_true rfl] at cD
    clear h
    go_enter Tryz.func92, Tryz.ntmps92
    go_wp2_with fail
    refine cD.mono ?_; rintro r w2 ⟨rfl, hb2⟩
    clear cD
    go_wp2
    go_ret
    exact ⟨.slice none 0 0, by rw [← pieceQ_pl]; rfl, World.ownsRow_nil _ _ _ _, hb2⟩
  | cons x r =>
    rw [decide_eq_false (List.cons_ne_nil _ _)] at cD
    obtain ⟨off, cap, s, c0, _, hc, c1, _, hs⟩ := h.read1
    have hl : (0 : Int) < ((r.length + 1 : Nat) : Int) := by omega
    obtain ⟨n, hn⟩ : ∃ n, r.length + 1 = n := ⟨_, rfl⟩
    obtain ⟨u, y, hux⟩ := pieceQ_if x s
    have HU : Hid (pieceQ x s = .iface u y) := hux
    rw [hux] at c1
    rw [hn] at c0 hl hc
    clear h hux hn
    go_enter Tryz.func92, Tryz.ntmps92
    go_wp2_with fail
    refine cD.mono ?_; rintro r w2 ⟨rfl, hb2⟩
    have d0 := (hb2.cell (lt_of_cell c0)).trans c0
    have d1 := (hb2.cell (lt_of_cell c1)).trans c1
    have HS : Hid (OwnA w2 B s x.A) := owns_below hs hb2
    clear cD c0 c1 hs
    go_wp2
    go_ret
    exact ⟨s, by rw [show top7 (x :: _) = x from rfl, HU.out]; rfl, HS.out, hb2⟩
set_option maxHeartbeats 2000000 in
set_option maxRecDepth 100000 in
theorem inserts_any (o : Op5) (p : Option Addr) (l c : Nat) (w : World) (hg : opE o = 0) :
    Calls Tryz.prog 97 #[pieceQ o (.slice p l c)] w fun r w' => r = .returned (.bool (decide (o.k = 1 ∨ o.k = 2))) ∧ Below w.heap.size w w' := by
  rcases kinds_of hg with hk | hk | hk | hk
  · rw [pieceQ_1 hk, decide_eq_true (Or.inl hk)]
    have a0 := as_i_i
    have a1 := as_i_e7
    obtain ⟨n, hn⟩ : ∃ n : Int, ((scs o.t.data.toList).length : Int) = n := ⟨_, rfl⟩
    rw [hn]
    clear hg hk hn
    go_enter Tryz.func97, Tryz.ntmps97
    go_wp2
    go_ret
    exact ⟨rfl, Below.refl _ _⟩
  · rw [pieceQ_2 hk, decide_eq_true (Or.inr hk)]
    have a0 := as_e_i
    have a1 := as_e_e
    obtain ⟨V, hV⟩ : ∃ V, valP o.v = V := ⟨_, rfl⟩
    rw [hV]
    clear hg hk hV
    go_enter Tryz.func97, Tryz.ntmps97
    go_wp2
    go_ret
    exact ⟨rfl, Below.refl _ _⟩
  · rw [pieceQ_3 hk, decide_eq_false (by omega)]
    have a0 := as_r_i
    have a1 := as_r_e6
    clear hg hk
    go_enter Tryz.func97, Tryz.ntmps97
    go_wp2
    go_ret
    exact ⟨rfl, Below.refl _ _⟩
  · rw [pieceQ_4 hk, decide_eq_false (by omega)]
    have a0 := as_d_i
    have a1 := as_d_e6
    clear hg hk
    go_enter Tryz.func97, Tryz.ntmps97
    go_wp2
    go_ret
    exact ⟨rfl, Below.refl _ _⟩
set_option maxHeartbeats 2000000 in
set_option maxRecDepth 100000 in
theorem left7_any {B q g : Nat} {R : List Op5} (w : World) (h : WkV w B q g R) (hg : ∀ o ∈ R, opE o = 0) :
    Calls Tryz.prog 60 #[.pointer (some ⟨q, 0, none⟩)] w fun r w' => r = .returned (.int .i64 (left7 R)) ∧ Below w.heap.size w w' := by
  have cN := next7_any w h
  have ht := top_good hg
  have hl := top_left R
  obtain ⟨T, hT⟩ : ∃ T, top7 R = T := ⟨_, rfl⟩
  rw [hT] at cN ht hl
  rw [← hl]
  have HI := fun s => pieceQ_if T s
  obtain ⟨PQ, hPQ⟩ : ∃ f : Value → Value, pieceQ T = f := ⟨_, rfl⟩
  have HPQ : Hid (pieceQ T = PQ) := hPQ
  rw [hPQ] at cN HI
  clear h hg hPQ hl hT
  go_enter Tryz.func60, Tryz.ntmps60
  go_wp2_with fail
  refine cN.mono ?_; rintro r w2 ⟨s, rfl, own, hb2⟩
  obtain ⟨u, x, hx⟩ := HI s
  have HX : Hid (pieceQ T s = .iface u x) := by show _ = _; rw [HPQ.out, hx]
  rw [hx]
  clear cN HI own hx
  go_wp2_with (refine wpList_lenP rfl (.tmp 4) rfl T s HX.out.symm ht ?_; intro w3 hb3; have b3 := hb2.trans (hb3.mono hb2.size))
  go_ret
  exact ⟨rfl, b3⟩
end Go.Proofs.YtplnojapnaaakaaGreatDoor

/- A piece cut in two; a piece taken. -/
namespace Go.Proofs.YtplnojapnaaakaaGreatDoor
open Go Go.RowKit Go.Lib
set_option linter.unusedVariables false
set_option maxHeartbeats 2000000 in
set_option maxRecDepth 100000 in
theorem cut71_any {e : Op5} {m : Nat} (p : Option Addr) (l c : Nat) (w : World) (hg : opE e = 0) (hk : e.k = 1) (h1 : 1 ≤ m) (h2 : (m : Int) < len5 e) (ht : e.t.size ≤ 8388608) (hR : RN w (.slice p l c) e.A) (hl : e.A.length ≤ 2097152) :
    Calls Tryz.prog 103 #[pieceQ e (.slice p l c), .int .i64 m] w fun r w' => ∃ s1, r = .returned (.tuple #[pieceQ (hd7 e m) s1, pieceQ (tl7 e m) (.slice p l c)]) ∧ OwnA w' w.heap.size s1 e.A ∧ Below w.heap.size w w' := by
  have hi : Ins e := by
    rcases op_good hg with ⟨hi, _⟩ | ⟨_, _, h⟩ | ⟨_, _, h⟩
    · exact hi
    · omega
    · omega
  obtain ⟨hv1, hv2, hv3⟩ := valid_text e.t hi.utf
  have hlen := len5_1 hk
  rw [hlen] at h2
  have hm : m < (scs e.t.data.toList).length := by omega
  have b0 : Below w.heap.size w (w.alloc (.cells #[.slice p l c, .string e.t, .int .i64 (scs e.t.data.toList).length] 183)) := (Below.refl _ _).alloc (Nat.le_refl _) _
  have cT := cutText_any p l c e.t (scs e.t.data.toList).length e.A (scs e.t.data.toList) m _ (hR.below b0) hl hv2 hv1 (by omega) ht hv3 (by omega) (by omega)
  have q1 : ∀ s1, pieceQ (hd7 e m) s1 = .iface 183 (.agg #[s1, .string (e.t.extract 0 (pos (scs e.t.data.toList) m)), .int .i64 m]) := fun s1 => by
    have e1 : hd7 e m = headO e m := by unfold hd7; rw [if_pos hk]; rfl
    have := (ins_head hi h1 hm).2
    unfold lenO at this
    rw [if_pos (show (headO e m).k = 1 from rfl)] at this
    rw [e1, pieceQ_1 (o := headO e m) rfl, this]; rfl
  have q2 : pieceQ (tl7 e m) (.slice p l c) = .iface 183 (.agg #[.slice p l c, .string (e.t.extract (pos (scs e.t.data.toList) m) e.t.size), .int .i64 (((scs e.t.data.toList).length : Int) - m)]) := by
    have e1 : tl7 e m = tailO e m := by unfold tl7; rw [if_pos hk]; rfl
    have := (ins_tail hi hm).2
    unfold lenO at this
    rw [if_pos (show (tailO e m).k = 1 from rfl)] at this
    rw [e1, pieceQ_1 (o := tailO e m) rfl, this]
    show Value.iface _ (.agg #[_, .string (tailO e m).t, .int .i64 (((scs e.t.data.toList).length - m : Nat) : Int)]) = _
    rw [Int.ofNat_sub (by omega)]; rfl
  rw [q2, pieceQ_1 hk]
  obtain ⟨X, hX⟩ : ∃ X, e.t.extract 0 (pos (scs e.t.data.toList) m) = X := ⟨_, rfl⟩
  obtain ⟨Y, hY⟩ : ∃ X, e.t.extract (pos (scs e.t.data.toList) m) e.t.size = X := ⟨_, rfl⟩
  obtain ⟨n, hn⟩ : ∃ n : Int, ((scs e.t.data.toList).length : Int) = n := ⟨_, rfl⟩
  simp only [hX, hY, hn] at cT q1 b0 ⊢
  have HQ : Hid (∀ s1, pieceQ (hd7 e m) s1 = .iface 183 (.agg #[s1, .string X, .int .i64 m])) := q1
  have a0 := as_i_i
  clear q1 q2 hX hY hn hm h2 hlen hv1 hv2 hv3 hi hg hk ht hR hl
  go_enter Tryz.func103, Tryz.ntmps103
  go_wp2_with fail
  refine cT.mono ?_; rintro r w2 ⟨p', c', rfl, own2, hb2⟩
  have HQ2 : Hid (OwnA w2 w.heap.size (.slice p' e.A.length c') e.A ∧ Below w.heap.size w w2) := ⟨own_weaken own2 b0.size, b0.trans (hb2.mono b0.size)⟩
  clear cT own2 hb2 b0
  go_wp2
  go_ret2
  exact ⟨.slice p' e.A.length c', by rw [HQ.out]; rfl, HQ2.out⟩
set_option maxHeartbeats 2000000 in
set_option maxRecDepth 100000 in
theorem cut73_any {e : Op5} {m : Int} (p : Option Addr) (l c : Nat) (w : World) (hg : opE e = 0) (hk : e.k = 3) (h1 : 1 ≤ m) (h2 : m < e.c) (hR : RN w (.slice p l c) e.A) (hl : e.A.length ≤ 2097152) :
    Calls Tryz.prog 103 #[pieceQ e (.slice p l c), .int .i64 m] w fun r w' => ∃ s1, r = .returned (.tuple #[pieceQ (hd7 e m) s1, pieceQ (tl7 e m) (.slice p l c)]) ∧ OwnA w' w.heap.size s1 e.A ∧ Below w.heap.size w w' := by
  have hc : e.c ≤ 1099511627776 := by
    rcases op_good hg with ⟨_, h⟩ | ⟨hc, _, h⟩ | ⟨_, _, h⟩
    · omega
    · exact hc.hi
    · omega
  have e1 : hd7 e m = ⟨e.k, e.t, e.v, m, e.A⟩ := if_neg (by omega)
  have e2 : tl7 e m = ⟨e.k, e.t, e.v, e.c - m, e.A⟩ := if_neg (by omega)
  have cA := fun W (hW : Below w.heap.size w W) => attributes_any (.slice p l c) e.A W (hR.below hW).row hR.nz hl
  rw [e1, e2]
  simp only [pieceQ_3 hk, pieceQ_3 (o := ⟨e.k, e.t, e.v, m, e.A⟩) hk, pieceQ_3 (o := ⟨e.k, e.t, e.v, e.c - m, e.A⟩) hk]
  obtain ⟨N, hN⟩ : ∃ N, e.c = N := ⟨_, rfl⟩
  rw [hN] at h2 hc ⊢
  have a0 := as_r_i
  have a1 := as_r_r
  clear hR hg hk e1 e2 hN
  go_enter Tryz.func103, Tryz.ntmps103
  go_upto_region 7 with fail
  go_cut [8, 9] (fun x6 x7 wx => ∃ X Y, x6 = .pointer (some ⟨X, 0, none⟩) ∧ x7 = .pointer (some ⟨Y, 0, none⟩) ∧ X ≠ Y ∧ w.heap.size < X ∧ w.heap.size < Y ∧ wx.heap[X]? = some (.cells #[.slice p l c, .int .i64 N] 151 (0, 0)) ∧ wx.heap[Y]? = some (.cells #[.slice p l c, .int .i64 N] 151 (0, 0)) ∧ Below (w.heap.size + 1) (w.alloc (.cells #[.slice p l c, .int .i64 N] 151)) wx)
  case first =>
    go_region
    all_goals (try go_wp2)
    all_goals go_meet
    all_goals obtain ⟨h1, h2, hB⟩ := box3 w _ _ _ rfl
    · exact ⟨_, _, rfl, rfl, by omega, by omega, by omega, h1, h2, hB⟩
    · exact ⟨_, _, rfl, rfl, by omega, by omega, by omega, h2, h1, hB⟩
  case rest =>
    obtain ⟨X, Y, rfl, rfl, nXY, lX, lY, hX, hY, hB⟩ := hcut
    have hb0 : Below w.heap.size w wc := ((Below.refl _ w).alloc (Nat.le_refl _) _).trans (hB.mono (by omega))
    have k0 : wc.heap[w.heap.size]? = some (.cells #[.slice p l c, .int .i64 N] 151 (0, 0)) := (hB.block _ (by omega)).trans (heap_alloc_new w _)
    have zX := (Array.getElem?_eq_some_iff.1 hX).1
    have zY := (Array.getElem?_eq_some_iff.1 hY).1
    have d0 : wc.cell? ⟨w.heap.size, 0, none⟩ = some (.slice p l c) := by rw [cell_of_heap k0]; rfl
    go_wp2_with fail
    refine (cA _ hb0).mono ?_; rintro r w3 ⟨v', rfl, own3, hb3⟩
    obtain ⟨p', c', rfl⟩ := own_slice own3
    have b3 := hb0.trans (hb3.mono hb0.size)
    have q0 := heap_below hb3 k0
    have qX := heap_below hb3 hX
    have qY := heap_below hb3 hY
    have x0 : w3.cell? ⟨X, 0, none⟩ = some (.slice p l c) := by rw [cell_of_heap qX]; rfl
    have x1 : w3.cell? ⟨X, 1, none⟩ = some (.int .i64 N) := by rw [cell_of_heap qX]; rfl
    have y0 : w3.cell? ⟨Y, 0, none⟩ = some (.slice p l c) := by rw [cell_of_heap qY]; rfl
    have y1 : w3.cell? ⟨Y, 1, none⟩ = some (.int .i64 N) := by rw [cell_of_heap qY]; rfl
    have g0 : w3.frozen? ⟨X, 0, none⟩ = false := frozen_of_heap qX 0
    have g1 : w3.frozen? ⟨X, 1, none⟩ = false := frozen_of_heap qX 1
    have k1 : w3.frozen? ⟨Y, 1, none⟩ = false := frozen_of_heap qY 1
    have n5 : ¬ X = Y := nXY
    have n6 : ¬ Y = X := Ne.symm nXY
    have z1 : w.heap.size ≤ X := by omega
    have z2 : w.heap.size ≤ Y := by omega
    have z3 : w.heap.size ≤ wc.heap.size := hb0.size
    have hs3 : Hid (OwnA w3 w.heap.size (.slice p' e.A.length c') e.A ∧ (∀ k, (Value.slice p' e.A.length c').ownBlock = some k → k ≠ X ∧ k ≠ Y)) := ⟨own_weaken own3 z3, fun k hk => by have h1 := (owns_block own3 k hk).1; omega⟩
    have HB3 : Hid (Below w.heap.size w w3) := b3
    clear q0 qX qY hX hY own3 hb3 b3 hb0 d0 k0 lX lY nXY hB zX zY cA
    go_wp2
    go_region
    go_wp2
    go_ret2
    refine ⟨_, rfl, ?_, ?_⟩
    · exact owns_same hs3.out.1 (fun k hk => by
        obtain ⟨e1, e2⟩ := hs3.out.2 k hk
        repeat (with_reducible first | (refine (heap_drw7 _ _).trans ?_) | (refine (Below.heap_setCell _ _ _ _ e1).trans ?_) | (refine (Below.heap_setCell _ _ _ _ e2).trans ?_) | rfl))
    · repeat (with_reducible first | exact HB3.out | (refine Below.drew ?_) | (refine Below.setCell ?_ (p := ⟨X, _, none⟩) z1 _) | (refine Below.setCell ?_ (p := ⟨Y, _, none⟩) z2 _))
set_option maxHeartbeats 2000000 in
set_option maxRecDepth 100000 in
theorem cut74_any {e : Op5} {m : Int} (s : Value) (w : World) (hg : opE e = 0) (hk : e.k = 4) (h1 : 1 ≤ m) (h2 : m < e.c) :
    Calls Tryz.prog 103 #[pieceQ e s, .int .i64 m] w fun r w' => ∃ s1, r = .returned (.tuple #[pieceQ (hd7 e m) s1, pieceQ (tl7 e m) s]) ∧ OwnA w' w.heap.size s1 e.A ∧ Below w.heap.size w w' := by
  have hh : e.c ≤ 1099511627776 ∧ e.A = [] := by
    rcases op_good hg with ⟨_, h⟩ | ⟨hc, _, h⟩ | ⟨hc, hA, h⟩
    · omega
    · omega
    · exact ⟨hc.hi, hA⟩
  obtain ⟨hc, hA⟩ := hh
  have e1 : hd7 e m = ⟨e.k, e.t, e.v, m, e.A⟩ := if_neg (by omega)
  have e2 : tl7 e m = ⟨e.k, e.t, e.v, e.c - m, e.A⟩ := if_neg (by omega)
  rw [e1, e2, hA]
  simp only [pieceQ_4 hk, pieceQ_4 (o := ⟨e.k, e.t, e.v, m, []⟩) hk, pieceQ_4 (o := ⟨e.k, e.t, e.v, e.c - m, []⟩) hk]
  obtain ⟨N, hN⟩ : ∃ N, e.c = N := ⟨_, rfl⟩
  rw [hN] at h2 hc ⊢
  have a0 := as_d_i
  have a1 := as_d_r
  have a2 := as_d_d
  clear hg hk e1 e2 hN hA
  go_enter Tryz.func103, Tryz.ntmps103
  go_wp2
  go_region
  go_wp2
  go_ret2
  exact ⟨.slice none 0 0, rfl, World.ownsRow_nil _ _ _ _, ((Below.refl _ _).alloc (Nat.le_refl _) _).drew⟩
theorem cut7_any {e : Op5} {m : Int} (p : Option Addr) (l c : Nat) (w : World) (hg : opE e = 0) (h1 : 1 ≤ m) (h2 : m < len5 e) (ht : e.t.size ≤ 8388608) (hR : RN w (.slice p l c) e.A) (hl : e.A.length ≤ 2097152) :
    Calls Tryz.prog 103 #[pieceQ e (.slice p l c), .int .i64 m] w fun r w' => ∃ s1, r = .returned (.tuple #[pieceQ (hd7 e m) s1, pieceQ (tl7 e m) (.slice p l c)]) ∧ OwnA w' w.heap.size s1 e.A ∧ Below w.heap.size w w' := by
  rcases kinds_of hg with hk | hk | hk | hk
  · obtain ⟨n, rfl⟩ : ∃ n : Nat, m = n := ⟨m.toNat, by omega⟩
    exact cut71_any p l c w hg hk (by omega) h2 ht hR hl
  · rw [len5_2 hk] at h2; omega
  · exact cut73_any p l c w hg hk h1 (by rwa [len5_3 (.inl hk)] at h2) hR hl
  · exact cut74_any _ w hg hk h1 (by rwa [len5_3 (.inr hk)] at h2)
end Go.Proofs.YtplnojapnaaakaaGreatDoor

/- What a Walker takes. -/
namespace Go.Proofs.YtplnojapnaaakaaGreatDoor
open Go Go.RowKit Go.Lib
set_option linter.unusedVariables false
set_option maxHeartbeats 4000000 in
set_option maxRecDepth 100000 in
theorem takeNil_any {B q g : Nat} (n : Int) (w : World) (h : WkV w B q g []) (hn : 1 ≤ n ∧ n ≤ 9223372036854775807) :
    Calls Tryz.prog 73 #[.pointer (some ⟨q, 0, none⟩), .int .i64 n] w fun r w' => ∃ s, r = .returned (pieceQ (nx7 [] n).1 s) ∧ OwnA w' B s (nx7 [] n).1.A ∧ WkV w' B q g (nx7 [] n).2 ∧ FrW q g w w' := by
  have cD := doneW_any w h
  rw [decide_eq_true rfl] at cD
  have HW : Hid (∀ W, Below w.heap.size w W → WkV W B q g []) := fun W hW => h.below hW
  have hq : ∀ s, pieceQ (nx7 [] n).1 s = .iface 151 (.agg #[s, .int .i64 (min n 1099511627776)]) := fun s => pieceQ_3 rfl
  have HQ : Hid _ := hq
  obtain ⟨hn1, hn2⟩ := hn
  clear h hq
  by_cases hm : n ≤ 1099511627776
  · have hmin : Hid (min n 1099511627776 = n) := by show _ = _; omega
    go_enter Tryz.func73, Tryz.ntmps73
    go_wp2_with fail
    refine cD.mono ?_; rintro r w2 ⟨rfl, hb2⟩
    clear cD
    go_wp2
    go_ret
    exact ⟨.slice none 0 0, by rw [HQ.out, hmin.out]; rfl, World.ownsRow_nil _ _ _ _, HW.out _ hb2, FrW.of_below hb2⟩
  · have hmin : Hid (min n 1099511627776 = 1099511627776) := by show _ = _; omega
    go_enter Tryz.func73, Tryz.ntmps73
    go_wp2_with fail
    refine cD.mono ?_; rintro r w2 ⟨rfl, hb2⟩
    clear cD
    go_wp2
    go_ret
    exact ⟨.slice none 0 0, by rw [HQ.out, hmin.out]; rfl, World.ownsRow_nil _ _ _ _, HW.out _ hb2, FrW.of_below hb2⟩
set_option maxHeartbeats 4000000 in
set_option maxRecDepth 100000 in
theorem takeAll_any {B q g : Nat} {x : Op5} {r : List Op5} (n : Int) (w : World) (h : WkV w B q g (x :: r)) (hg : opE x = 0) (hn : len5 x ≤ n) (hr : r.length ≤ 8388608) :
    Calls Tryz.prog 73 #[.pointer (some ⟨q, 0, none⟩), .int .i64 n] w fun e w' => ∃ s, e = .returned (pieceQ (nx7 (x :: r) n).1 s) ∧ OwnA w' B s (nx7 (x :: r) n).1.A ∧ WkV w' B q g (nx7 (x :: r) n).2 ∧ FrW q g w w' := by
  rw [nx_all hn]
  have cD := doneW_any w h
  rw [decide_eq_false (List.cons_ne_nil _ _)] at cD
  obtain ⟨off, cap, s, c0, f0, hc, c1, f1, hs⟩ := h.read1
  have hl : (0 : Int) < ((r.length + 1 : Nat) : Int) := by omega
  obtain ⟨m, hm⟩ : ∃ m, r.length = m := ⟨_, rfl⟩
  obtain ⟨u, y, hux⟩ := pieceQ_if x s
  have HU : Hid (pieceQ x s = .iface u y) := hux
  have HM : Hid (r.length = m) := hm
  have HC : Hid (w.cell? ⟨q, 0, none⟩ = some (.slice (some ⟨g, off, none⟩) (r.length + 1) cap) ∧ OwnA w B s x.A ∧ WkV w B q g (x :: r)) := ⟨c0, hs, h⟩
  have hnn : Hid (len5 x ≤ n) := hn
  rw [hux] at c1
  rw [hm] at c0 hl hc hr
  obtain ⟨L, hL⟩ : ∃ L, len5 x = L := ⟨_, rfl⟩
  have HL : Hid (len5 x = L) := hL
  rw [hL] at hn
  have hge : L ≤ n := hn
  have hne : q ≠ g := h.ne
  have hne2 : g ≠ q := Ne.symm hne
  clear h hux hm hs hn hL
  go_enter Tryz.func73, Tryz.ntmps73
  go_wp2_with fail
  refine cD.mono ?_; rintro r' w2 ⟨rfl, hb2⟩
  have d0 := (hb2.cell (lt_of_cell c0)).trans c0
  have d1 := (hb2.cell (lt_of_cell c1)).trans c1
  have e0 := (hb2.frozen (lt_of_cell c0)).trans f0
  have HB2 : Hid (Below w.heap.size w w2) := hb2
  clear cD c0 c1 f0 f1 hb2
  go_wp2_with (refine wpList_lenP rfl (.tmp 21) rfl x s HU.out.symm hg ?_; rw [HL.out]; intro w3 hb3; have d0' := (hb3.cell (lt_of_cell d0)).trans d0; have e0' := (hb3.frozen (lt_of_cell d0)).trans e0; clear d0 e0)
  all_goals
    have H3 : WkV w3 B q g (x :: r) := (HC.out.2.2.below HB2.out).below hb3
    have C3 : w3.cell? ⟨q, 0, none⟩ = some (.slice (some ⟨g, off, none⟩) (r.length + 1) cap) := by rw [HM.out]; exact d0'
    have O3 : OwnA w3 B s x.A := owns_below (owns_below HC.out.2.1 HB2.out) hb3
    have F3 : FrW q g w w3 := (FrW.of_below HB2.out).trans (FrW.of_below hb3)
  · have hr0 : r = [] := List.eq_nil_of_length_eq_zero (by have := HM.out; omega)
    have hm0 : m = 0 := by omega
    subst hr0
    obtain ⟨a1, a2⟩ := H3.drop (p' := some ⟨g, off, none⟩) (c' := 0) C3 (Nat.zero_le _) (fun h => absurd rfl h)
    subst hm0
    go_ret
    exact ⟨s, by rw [HU.out]; rfl, keepA_own O3 a2.keepA, a1, F3.trans a2⟩
  · obtain ⟨a1, a2⟩ := H3.drop (p' := some ⟨g, off + 1, none⟩) (c' := cap - 1) C3 (by rw [HM.out]; omega) (fun _ => rfl)
    rw [HM.out] at a1 a2
    go_ret
    exact ⟨s, by rw [HU.out]; rfl, keepA_own O3 a2.keepA, a1, F3.trans a2⟩
set_option maxHeartbeats 4000000 in
set_option maxRecDepth 100000 in
theorem takePart_any {B q g : Nat} {x : Op5} {r : List Op5} (n : Int) (w : World) (h : WkV w B q g (x :: r)) (hg : opE x = 0) (h1 : 1 ≤ n) (hn : ¬ len5 x ≤ n) (ht : x.t.size ≤ 8388608) (hA : x.A.length ≤ 2097152) :
    Calls Tryz.prog 73 #[.pointer (some ⟨q, 0, none⟩), .int .i64 n] w fun e w' => ∃ s, e = .returned (pieceQ (nx7 (x :: r) n).1 s) ∧ OwnA w' B s (nx7 (x :: r) n).1.A ∧ WkV w' B q g (nx7 (x :: r) n).2 ∧ FrW q g w w' := by
  rw [nx_part hn]
  have cx := cut7 hg h1 (by omega)
  have cD := doneW_any w h
  rw [decide_eq_false (List.cons_ne_nil _ _)] at cD
  obtain ⟨off, cap, s, c0, f0, hc, c1, f1, hs⟩ := h.read1
  obtain ⟨ps, cs, rfl⟩ := own_slice hs
  have cC := fun W (hW : Below w.heap.size w W) => cut7_any ps x.A.length cs W hg h1 (by omega) ht (own_RN (owns_below hs hW)) hA
  have hl : (0 : Int) < ((r.length + 1 : Nat) : Int) := by omega
  obtain ⟨m, hm⟩ : ∃ m, r.length = m := ⟨_, rfl⟩
  have HM : Hid (r.length = m) := hm
  obtain ⟨u, y, hux⟩ := pieceQ_if x (.slice ps x.A.length cs)
  have HU : Hid (pieceQ x (.slice ps x.A.length cs) = .iface u y) := hux
  obtain ⟨ut, yt, hut⟩ := pieceQ_if (tl7 x n) (.slice ps x.A.length cs)
  have HT : Hid (pieceQ (tl7 x n) (.slice ps x.A.length cs) = .iface ut yt) := hut
  have HX : Hid ((hd7 x n).A = x.A ∧ (tl7 x n).A = x.A) := ⟨cx.hA, cx.tA⟩
  have HC : Hid (w.cell? ⟨q, 0, none⟩ = some (.slice (some ⟨g, off, none⟩) (r.length + 1) cap) ∧ OwnA w B (.slice ps x.A.length cs) x.A ∧ WkV w B q g (x :: r)) := ⟨c0, hs, h⟩
  rw [hux] at c1
  simp only [hux, hut] at cC
  rw [hm] at c0 hl hc
  obtain ⟨L, hL⟩ : ∃ L, len5 x = L := ⟨_, rfl⟩
  have HL : Hid (len5 x = L) := hL
  rw [hL] at hn
  have hge : ¬ L ≤ n := hn
  have hne : q ≠ g := h.ne
  have hne2 : g ≠ q := Ne.symm hne
  have hB : B ≤ w.heap.size := by have := h.lq; have := h.lt; omega
  clear h hux hm hs hn hL hut cx
  go_enter Tryz.func73, Tryz.ntmps73
  go_wp2_with fail
  refine cD.mono ?_; rintro r' w2 ⟨rfl, hb2⟩
  have d0 := (hb2.cell (lt_of_cell c0)).trans c0
  have d1 := (hb2.cell (lt_of_cell c1)).trans c1
  have e1 := (hb2.frozen (lt_of_cell c1)).trans f1
  have HB2 : Hid (Below w.heap.size w w2) := hb2
  clear cD c0 c1 f0 f1 hb2
  go_wp2_with (refine wpList_lenP rfl (.tmp 21) rfl x (.slice ps x.A.length cs) HU.out.symm hg ?_; rw [HL.out]; intro w3 hb3; have d0' := (hb3.cell (lt_of_cell d0)).trans d0; have d1' := (hb3.cell (lt_of_cell d1)).trans d1; have e1' := (hb3.frozen (lt_of_cell d1)).trans e1; have b3 := HB2.out.trans (hb3.mono HB2.out.size); clear d0 d1 e1 hb3)
  refine (cC _ b3).mono ?_; rintro r' w4 ⟨s1, rfl, own4, hb4⟩
  obtain ⟨uh, yh, huh⟩ := pieceQ_if (hd7 x n) s1
  have HH : Hid (pieceQ (hd7 x n) s1 = .iface uh yh) := huh
  rw [huh]
  have d0 := (hb4.cell (lt_of_cell d0')).trans d0'
  have d1 := (hb4.cell (lt_of_cell d1')).trans d1'
  have e1 := (hb4.frozen (lt_of_cell d1')).trans e1'
  have b4 := b3.trans (hb4.mono b3.size)
  have H4 : Hid (WkV w4 B q g (x :: r) ∧ OwnA w4 B (.slice ps x.A.length cs) x.A ∧ OwnA w4 B s1 x.A ∧ FrW q g w w4) := ⟨HC.out.2.2.below b4, owns_below HC.out.2.1 b4, own_weaken own4 (Nat.le_trans hB b3.size), FrW.of_below b4⟩
  clear cC huh own4 hb4 b3 b4 d0' d1' e1' hB
  go_wp2
  have C4 : w4.cell? ⟨q, 0, none⟩ = some (.slice (some ⟨g, off, none⟩) (r.length + 1) cap) := by rw [HM.out]; exact d0
  go_ret
  obtain ⟨g1, g2, g3, g4⟩ := H4.out
  obtain ⟨a1, a2⟩ := g1.put (x' := tl7 x n) (s' := .slice ps x.A.length cs) C4 (by rw [HX.out.2]; exact g2)
  rw [HT.out] at a1 a2
  exact ⟨s1, by rw [HH.out]; rfl, by rw [HX.out.1]; exact keepA_own g3 a2.keepA, a1, g4.trans a2⟩
theorem take_any {B q g : Nat} {R : List Op5} {N T K : Nat} (n : Int) (w : World) (h : WkV w B q g R) (hR : Rst R N T K) (hT : T ≤ 8388608) (hK : K ≤ 2097152) (hN : N ≤ 8388608) (hn : 1 ≤ n ∧ n ≤ 9223372036854775807) :
    Calls Tryz.prog 73 #[.pointer (some ⟨q, 0, none⟩), .int .i64 n] w fun e w' => ∃ s, e = .returned (pieceQ (nx7 R n).1 s) ∧ OwnA w' B s (nx7 R n).1.A ∧ WkV w' B q g (nx7 R n).2 ∧ FrW q g w w' := by
  cases R with
  | nil => exact takeNil_any n w h hn
  | cons x r =>
    have hx := hR.good x (List.mem_cons_self ..)
    by_cases hl : len5 x ≤ n
    · exact takeAll_any n w h hx hl (by have := hR.len; simp at this; omega)
    · exact takePart_any n w h hx hn.1 hl (Nat.le_trans (hR.size x (List.mem_cons_self ..)) hT) (Nat.le_trans (hR.attr x (List.mem_cons_self ..)) hK)
end Go.Proofs.YtplnojapnaaakaaGreatDoor

/- What vellumref04.Refuse and Check answer: what an insert is refused with. -/
namespace Go.Proofs.YtplnojapnaaakaaGreatDoor
open Go Go.RowKit Go.Lib
set_option linter.unusedVariables false
theorem Fit.tiny {o : Op5} (h : Fit o) : Tiny o.A := h.A

set_option maxHeartbeats 2000000 in
theorem ref_ins {I : List Nat} {a : Nat → Addr} (o : Op5) (s : Value) (w : World) (hS : Std I a w) (hR : RN w s o.A) (hF : Fit o) :
    Calls Tryz.prog 87 #[opV o s] w fun r w' => r = .returned (.int .i64 (insE o)) ∧ Below w.heap.size w w' := by
  have b0 := (Below.refl w.heap.size w).alloc (Nat.le_refl _) (.cells (opC o s) 33)
  have D0 := BoxO.new w o s
  have cU : Hid (∀ b, decide (brk o.t.data.toList = o.t.size) = b → ∀ W, Calls Tryz.prog 121 #[.string o.t] W fun r w' => r = .returned (.bool b) ∧ Below W.heap.size W w') := fun b hb W => ref_utf8 o.t W (by have := hF.t; omega) b hb
  have cV : Hid (∀ W, Calls Tryz.prog 122 #[pl o.v.1 o.v.2.1 o.v.2.2] W fun r w' => r = .returned (.int .i64 (chkP o.v)) ∧ Below W.heap.size W w') := fun W => ref_chk _ _ _ W (by have := hF.v; omega)
  have cA : Hid (∀ W, Below w.heap.size w W → Calls Tryz.prog 88 #[s, .bool false] W fun r w' => r = .returned (.int .i64 (listE false none o.A)) ∧ Below W.heap.size W w') := fun W hW => ref_check s o.A false W (hS.below hW) (hR.row.below hW) hF.tiny (by have := hF.n; omega)
  obtain ⟨E, hE⟩ : ∃ E, insE o = E := ⟨_, rfl⟩
  rw [hE]
  obtain ⟨V, hV⟩ : ∃ V, chkP o.v = V := ⟨_, rfl⟩
  obtain ⟨L, hL⟩ : ∃ L, listE false none o.A = L := ⟨_, rfl⟩
  rw [hV] at cV
  rw [hL] at cA
  have hE' : E = if fldE o ≠ 0 then fldE o else if brk o.t.data.toList ≠ o.t.size then 1 else if V ≠ 0 then V else L := by rw [← hE, ← hV, ← hL]; rfl
  have hz : o.v = z0 → V = 0 := fun h => by rw [← hV, h]; exact chk_z0
  obtain ⟨U, hU⟩ : ∃ U, decide (brk o.t.data.toList = o.t.size) = U := ⟨_, rfl⟩
  have hU' : (brk o.t.data.toList ≠ o.t.size) = (U = false) := by rw [← hU]; simp
  simp only [hU'] at hE'
  have cU : Hid (∀ W, Calls Tryz.prog 121 #[.string o.t] W fun r w' => r = .returned (.bool U) ∧ Below W.heap.size W w') := cU.out U hU
  clear hE hV hL hU hU' hF hS hR
  have HD : Hid (BoxO (w.alloc (.cells (opC o s) 33)) w.heap.size o s) := D0
  have HA : Hid (∀ W, Below (w.alloc (.cells (opC o s) 33)).heap.size (w.alloc (.cells (opC o s) 33)) W → Calls Tryz.prog 88 #[s, .bool false] W fun r w' => r = .returned (.int .i64 L) ∧ Below W.heap.size W w') := fun W hW => cA.out W (b0.trans (hW.mono b0.size))
  clear cA
  obtain ⟨k, t, ⟨x, n, u⟩, c, A⟩ := o
  obtain ⟨d0, d1, d2, d3, d4, d5, d6⟩ := D0
  simp only at d0 d1 d2 d3 d4 d5 d6 cU cV hz
  simp only [opC] at b0 d0 d1 d2 d3 d4 d5 d6 HD HA
  have gd := fun op x' y' w => guard_pl op x' y' (x, n, u) (0, 0, ⟨#[]⟩) w
  unfold fldE at hE'
  simp only at hE'
  have fin : ∀ w2, Below (w.alloc (.cells #[.int .i64 k, .string t, .int .i64 x, .int .i64 n, .string u, .int .i64 c, s] 33)).heap.size (w.alloc (.cells #[.int .i64 k, .string t, .int .i64 x, .int .i64 n, .string u, .int .i64 c, s] 33)) w2 → Below w.heap.size w w2 := fun w2 h => b0.trans (h.mono b0.size)
  by_cases k1 : k = 1
  · subst k1
    by_cases c0 : c = 0
    · subst c0
      cases he : t.toList.isEmpty with
      | true =>
        have hE2 : E = 9 := by rw [hE']; simp [he]
        subst hE2
        clear gd cU cV HA hz hE' HD fin
        go_enter Tryz.func87, Tryz.ntmps87
        go_wp2
        go_ret
        exact ⟨rfl, b0⟩
      | false =>
        by_cases hz0 : (x, n, u) = z0
        · have hne := neq_pl (x, n, u) (0, 0, ⟨#[]⟩) false (by rw [hz0]; show (!samP z0 z0) = false; rw [samP_self]; rfl)
          have hV0 := hz hz0
          cases U with
          | false =>
            have hE2 : E = 1 := by rw [hE']; simp [he, hz0]
            subst hE2
            clear hz hz0 hV0 cV HA hE' HD
            go_enter Tryz.func87, Tryz.ntmps87
            go_wp2_with fail
            refine (cU.out _).mono ?_; rintro r w2 ⟨rfl, h2⟩
            have b2 := fin _ h2
            go_wp2
            go_ret
            exact ⟨rfl, b2⟩
          | true =>
            have hE2 : E = L := by rw [hE', hV0]; simp [he, hz0]
            subst hE2
            clear hz hz0 hV0 cV hE'
            go_enter Tryz.func87, Tryz.ntmps87
            go_wp2_with fail
            refine (cU.out _).mono ?_; rintro r w2 ⟨rfl, h2⟩
            obtain ⟨p0, p1, p2, p3, p4, p5, p6⟩ := HD.out.below h2
            simp only at p0 p1 p2 p3 p4 p5 p6
            have c2 := HA.out _ h2
            have b2 := fin _ h2
            clear d0 d1 d2 d3 d4 d5 d6 h2
            go_wp2_with fail
            refine c2.mono ?_; rintro r w3 ⟨rfl, h3⟩
            go_wp2
            go_ret
            exact ⟨rfl, b2.trans (h3.mono b2.size)⟩
        · have hne := neq_pl (x, n, u) (0, 0, ⟨#[]⟩) true (by show (!samP (x, n, u) z0) = true; rw [samP_ne hz0]; rfl)
          have hE2 : E = 9 := by rw [hE']; simp [he, hz0]
          subst hE2
          clear hz hz0 cV cU HA hE' HD fin
          go_enter Tryz.func87, Tryz.ntmps87
          go_wp2
          go_ret
          exact ⟨rfl, b0⟩
    · have hc : (c == 0) = false := by simpa using c0
      have hE2 : E = 9 := by rw [hE']; simp [c0]
      subst hE2
      clear hz cV cU HA hE' HD fin c0
      go_enter Tryz.func87, Tryz.ntmps87
      go_wp2
      go_ret
      exact ⟨rfl, b0⟩
  · have hk1 : (k != 1) = true := by simpa using k1
    by_cases k2 : k = 2
    · subst k2
      clear hk1 k1
      by_cases c0 : c = 0
      · subst c0
        cases he : t.toList.isEmpty with
        | true =>
          have hE2 : E = 6 := by rw [hE']; simp [he]
          subst hE2
          clear gd cU cV HA hz hE' HD fin
          go_enter Tryz.func87, Tryz.ntmps87
          go_wp2
          go_ret
          exact ⟨rfl, b0⟩
        | false =>
          by_cases h64 : 64 < t.size
          · have h64I : (64 : Int) < (t.size : Int) := by omega
            have hE2 : E = 6 := by rw [hE']; simp [he, h64]
            subst hE2
            clear gd cU cV HA hz hE' HD fin
            go_enter Tryz.func87, Tryz.ntmps87
            go_wp2
            go_ret
            exact ⟨rfl, b0⟩
          · have h64I : ¬ (64 : Int) < (t.size : Int) := by omega
            cases U with
            | false =>
              have hE2 : E = 1 := by rw [hE']; simp [he, h64]
              subst hE2
              clear hz cV HA hE' HD gd
              go_enter Tryz.func87, Tryz.ntmps87
              go_wp2_with fail
              refine (cU.out _).mono ?_; rintro r w2 ⟨rfl, h2⟩
              have b2 := fin _ h2
              go_wp2
              go_ret
              exact ⟨rfl, b2⟩
            | true =>
              by_cases hV : V = 0
              · have hE2 : E = L := by rw [hE']; simp [he, h64, hV]
                subst hE2
                subst hV
                clear hz hE' gd
                go_enter Tryz.func87, Tryz.ntmps87
                go_wp2_with fail
                refine (cU.out _).mono ?_; rintro r w2 ⟨rfl, h2⟩
                obtain ⟨p0, p1, p2, p3, p4, p5, p6⟩ := HD.out.below h2
                simp only at p0 p1 p2 p3 p4 p5 p6
                clear d0 d1 d2 d3 d4 d5 d6
                go_wp2_with fail
                refine (cV.out _).mono ?_; rintro r w3 ⟨rfl, h3⟩
                have h23 := h2.trans (h3.mono h2.size)
                obtain ⟨q0, q1, q2, q3, q4, q5, q6⟩ := HD.out.below h23
                simp only at q0 q1 q2 q3 q4 q5 q6
                have c2 := HA.out _ h23
                have b3 := fin _ h23
                clear p0 p1 p2 p3 p4 p5 p6 h2 h3 h23
                go_wp2_with fail
                refine c2.mono ?_; rintro r w4 ⟨rfl, h4⟩
                go_wp2
                go_ret
                exact ⟨rfl, b3.trans (h4.mono b3.size)⟩
              · have hE2 : E = V := by rw [hE']; simp [he, h64, hV]
                subst hE2
                have hVI : ((E : Int) == 0) = false := by simp; omega
                clear hz hE' gd HA
                go_enter Tryz.func87, Tryz.ntmps87
                go_wp2_with fail
                refine (cU.out _).mono ?_; rintro r w2 ⟨rfl, h2⟩
                obtain ⟨p0, p1, p2, p3, p4, p5, p6⟩ := HD.out.below h2
                simp only at p0 p1 p2 p3 p4 p5 p6
                clear d0 d1 d2 d3 d4 d5 d6
                go_wp2_with fail
                refine (cV.out _).mono ?_; rintro r w3 ⟨rfl, h3⟩
                have b3 := fin _ (h2.trans (h3.mono h2.size))
                go_wp2
                go_ret
                exact ⟨rfl, b3⟩
      · have hc : (c == 0) = false := by simpa using c0
        have hE2 : E = 9 := by rw [hE']; simp [c0]
        subst hE2
        clear hz cV cU HA hE' HD fin c0 gd
        go_enter Tryz.func87, Tryz.ntmps87
        go_wp2
        go_ret
        exact ⟨rfl, b0⟩
    · have hk2 : (k != 2) = true := by simpa using k2
      have hE2 : E = 5 := by rw [hE']; simp [k1, k2]
      subst hE2
      clear hz cV cU HA hE' HD fin gd k1 k2
      go_enter Tryz.func87, Tryz.ntmps87
      go_wp2
      go_ret
      exact ⟨rfl, b0⟩
end Go.Proofs.YtplnojapnaaakaaGreatDoor

/- What vellumref04.copied and vellumref04.Join answer. -/
namespace Go.Proofs.YtplnojapnaaakaaGreatDoor
open Go Go.RowKit Go.Lib
set_option linter.unusedVariables false
set_option maxHeartbeats 400000 in
theorem copied_any (v : Value) (A : List A2) (w : World) (hA : RN w v A) (hl : A.length ≤ 2097152) :
    Calls Tryz.prog 139 #[v] w fun r w' => ∃ v', r = .returned v' ∧ OwnA w' w.heap.size v' A ∧ Below w.heap.size w w' := by
  have b0 := (Below.refl w.heap.size w).alloc (Nat.le_refl _) (.cells #[] 154)
  have HA : Hid (RN (w.alloc (.cells #[] 154)) v A) := hA.below b0
  have oE := own_empty' w w.heap.size (Nat.le_refl _)
  clear hA
  go_enter Tryz.func139, Tryz.ntmps139
  go_wp2_with (at_builtin; refine wpList_append_row rfl (.tmp 3) (.tmp 4) rfl w.heap.size (.slice (some ⟨w.heap.size, 0, none⟩) 0 0) [] rfl oE v A rfl HA.out.row HA.out.nz (by simpa using hl) b0.size ?_; intro v9 w9 own9 gr9; have b9 := b0.grown gr9 b0.size (fun j hj => by simp only [Value.ownBlock, Option.some.injEq] at hj; omega))
  go_ret
  exact ⟨_, rfl, own9, b9⟩

end Go.Proofs.YtplnojapnaaakaaGreatDoor

/- What vellumref04.Length answers of inserts. -/
namespace Go.Proofs.YtplnojapnaaakaaGreatDoor
open Go Go.RowKit Go.Lib
set_option linter.unusedVariables false
set_option maxHeartbeats 1000000 in
theorem refLen4_any (o : Op5) (s : Value) (w : World) (hO : Ins o) (ht : o.t.size ≤ 8388608) :
    Calls Tryz.prog 100 #[opV o s] w fun r w' => r = .returned (.int .i64 (lenO o)) ∧ Below w.heap.size w w' := by
  have b0 := (Below.refl w.heap.size w).alloc (Nat.le_refl _) (.cells (opC o s) 33)
  have c1 := fun W => ref_list o.t W (by omega)
  have hk := hO.kind
  unfold lenO
  obtain ⟨k, t, ⟨x, n, u⟩, c, A⟩ := o
  simp only at hk c1
  simp only [opC] at b0
  rcases hk with ⟨hk, hv⟩ | ⟨hk, hv⟩
  · clear hv
    subst hk
    rw [if_pos rfl]
    obtain ⟨n1, hn1⟩ : ∃ n, (scs t.data.toList).length = n := ⟨_, rfl⟩
    simp only [hn1] at c1 ⊢
    clear hn1
    go_enter Tryz.func100, Tryz.ntmps100
    go_wp2_with fail
    refine (c1 _).mono ?_; rintro r w2 ⟨v, rfl, _, ⟨g, cap, rfl⟩, hb2⟩
    have b2 := b0.trans (hb2.mono b0.size)
    go_wp2
    go_ret
    exact ⟨rfl, b2⟩
  · clear hv
    subst hk
    rw [if_neg (by show ¬ (2 : Int) = 1; decide)]
    go_enter Tryz.func100, Tryz.ntmps100
    go_wp2
    go_ret
    exact ⟨rfl, b0⟩
end Go.Proofs.YtplnojapnaaakaaGreatDoor

/- What vellumref04.Length, Cells and Newlines answer of inserts. -/
namespace Go.Proofs.YtplnojapnaaakaaGreatDoor
open Go Go.RowKit Go.Lib
set_option linter.unusedVariables false
/-- All blocks of numbers are as they were. -/
def Keep32 (w w' : World) : Prop := ∀ (k : Nat) (cur : Array Value), w.heap[k]? = some (.cells cur 21 (0, 0)) → w'.heap[k]? = w.heap[k]?
theorem keep32_own {w w' : World} {B : Nat} {v : Value} {zs : List Int} (h : Own32 B w v zs) (hk : Keep32 w w') : Own32 B w' v zs := by
  obtain ⟨hl, h⟩ := h
  refine ⟨hl, ?_⟩
  rcases h with h | ⟨g, cap, cur, h1, h2, h3, h4⟩
  · exact Or.inl h
  · exact Or.inr ⟨g, cap, cur, h1, h2, (hk g cur h3).trans h3, h4⟩
theorem keep32_grown {w w' : World} {B : Nat} {v : Value} {D : List CV} (h : OwnC w B v D) (g : w.grownBy w' v.ownBlock) : Keep32 w w' := fun k cur hk => by
  refine g.block k (Array.getElem?_eq_some_iff.1 hk).1 fun e => ?_
  rcases h.2 with ⟨rfl, _⟩ | ⟨b, cap, cur', rfl, _, h3, _⟩
  · cases e
  · simp only [Value.ownBlock, Option.some.injEq] at e
    subst e
    rw [h3] at hk
    simp only [Option.some.injEq, Obj.cells.injEq] at hk
    exact absurd hk.2.1 (by decide)

set_option maxHeartbeats 2000000 in
set_option maxRecDepth 100000 in
theorem refCells_text (o : Op5) (s : Value) (w : World) (hR : RN w s o.A) (hF : Fit o) (hO : Ins o) (hk : o.k = 1) :
    Calls Tryz.prog 117 #[opV o s] w fun r w' => ∃ v' D, r = .returned v' ∧ OwnC w' w.heap.size v' D ∧ AreO w' w.heap.size D (cellsOf o) ∧ Below w.heap.size w w' := by
  have b0 := (Below.refl w.heap.size w).alloc (Nat.le_refl _) (.cells (opC o s) 33)
  have b1 := b0.alloc b0.size (.cells #[] 175)
  have c1 := fun W => ref_list o.t W (by have := hF.t; omega)
  have HA : Hid (∀ W, Below w.heap.size w W → Calls Tryz.prog 139 #[s] W fun r w' => ∃ v', r = .returned v' ∧ OwnA w' W.heap.size v' o.A ∧ Below W.heap.size W w') := fun W hW => copied_any s o.A W (hR.below hW) (by have := hF.n; omega)
  have HE : Hid (cellsOf o = mkC o.A (scs o.t.data.toList)) := by show _ = _; unfold cellsOf; rw [if_pos hk]
  have hlen := (valid_text o.t hO.utf).2.2
  have hts := hF.t
  have oE : OwnC ((w.alloc (.cells (opC o s) 33)).alloc (.cells #[] 175)) (w.heap.size + 1) (.slice (some ⟨w.heap.size + 1, 0, none⟩) 0 0) [] := by
    have := own_emptyC (w.alloc (.cells (opC o s) 33)) (w.heap.size + 1) (by simp)
    rwa [World.size_alloc] at this
  have e6 : ((w.alloc (.cells (opC o s) 33)).alloc (.cells #[] 175)).cell? ⟨w.heap.size, 6, none⟩ = some s := ((BoxO.new w o s).below ((Below.refl _ _).alloc (Nat.le_refl _) _)).d6
  obtain ⟨W1, hW1⟩ : ∃ W, W = (w.alloc (.cells (opC o s) 33)).alloc (.cells #[] 175) := ⟨_, rfl⟩
  have hs1 : W1.heap.size = w.heap.size + 2 := by rw [hW1]; simp
  rw [← hW1] at oE e6 b1
  obtain ⟨rs, hrs⟩ : ∃ rs, scs o.t.data.toList = rs := ⟨_, rfl⟩
  simp only [hrs] at c1
  rw [hrs] at HE hlen
  obtain ⟨n, hn⟩ : ∃ n, rs.length = n := ⟨_, rfl⟩
  have HN : Hid (rs.length = n) := hn
  simp only [hn] at c1
  rw [hn] at hlen
  clear hR hF hO hrs hn
  obtain ⟨C, hC⟩ : ∃ C, cellsOf o = C := ⟨_, rfl⟩
  rw [hC] at HE ⊢
  clear hC
  obtain ⟨k, t, ⟨x, z, u⟩, c, A⟩ := o
  simp only at hk c1 HA HE hlen hts
  simp only [opC] at hW1 b0
  subst hk
  obtain ⟨v0, hv0⟩ : ∃ v0 : Value, v0 = Value.slice (some ⟨w.heap.size + 1, 0, none⟩) 0 0 := ⟨_, rfl⟩
  rw [← hv0] at oE
  go_enter Tryz.func117, Tryz.ntmps117
  go_upto_region 4 with fail
  rw [← hW1, ← hv0]
  have hd1 : W1.cell? ⟨w.heap.size, 1, none⟩ = some (.string t) := by rw [hW1]; simp
  clear hW1 hv0 b0
  go_wp2_with fail
  refine (c1 _).mono ?_; rintro r w2 ⟨vl, rfl, ol, ⟨gl, cl, rfl⟩, hb2⟩
  have b2 := b1.trans (hb2.mono b1.size)
  have o2 := owns_below oE hb2
  have f6 := (hb2.cell (lt_of_cell e6)).trans e6
  have ol2 : Own32 0 w2 (.slice (some ⟨gl, 0, none⟩) n cl) (ints rs) := own_weaken ol (Nat.zero_le _)
  have hs2 : w.heap.size + 1 ≤ w2.heap.size := by have := hb2.size; omega
  clear c1 hb2 b1 oE e6 hd1 ol hs1
  go_wp2_with fail
  go_loopw [3, 5, 23] (fun v _ i wr => ∃ (k : Nat) (D : List CV), k ≤ n ∧ i = .int .i64 k ∧ D.length = k ∧ OwnC wr (w.heap.size + 1) v D ∧ AreO wr (w.heap.size + 1) D (mkC A (rs.take k)) ∧ Own32 0 wr (.slice (some ⟨gl, 0, none⟩) n cl) (ints rs) ∧ Below w.heap.size w wr ∧ wr.cell? ⟨w.heap.size, 6, none⟩ = some s ∧ w.heap.size + 1 ≤ wr.heap.size) (fun _ _ i _ => n - (RowKit.intOf i).toNat)
  case atStart => exact ⟨0, [], Nat.zero_le _, rfl, rfl, o2, .nil, ol2, b2, f6, hs2⟩
  case round =>
    clear o2 ol2 b2 f6 hs2
    obtain ⟨k, D, hk, rfl, hDl, hown, hare, hol, hbw, e6, hsw⟩ := hrel
    by_cases hlt : k < n
    · have hltI : (k : Int) < n := by omega
      have HT : Hid (mkC A (rs.take (k + 1)) = mkC A (rs.take k) ++ [(((rs[k]'(by rw [HN.out]; exact hlt) : Nat) : Int), ⟨#[]⟩, z0, A)]) := by
        show _ = _
        rw [List.take_succ_eq_append_getElem (by rw [HN.out]; exact hlt)]
        simp only [mkC, List.map_append, List.map_cons, List.map_nil]
      have hr : wr.cell? ⟨gl, k, none⟩ = some (.int .i32 ((rs[k]'(by rw [HN.out]; exact hlt) : Nat) : Int)) := by
        have hol' : wr.ownsRow 0 21 1 (.slice (some ⟨gl, 0, none⟩) n cl) n (cells32 (ints rs)) := by have := hol; rwa [Own32, ints_length, HN.out] at this
        have := hol'.cells (g := gl) rfl k (.int .i32 ((rs[k]'(by rw [HN.out]; exact hlt) : Nat) : Int)) (by
          unfold cells32 ints
          rw [List.getElem?_map, List.getElem?_map, List.getElem?_eq_getElem (by rw [HN.out]; exact hlt)]
          rfl)
        rwa [Addr.add_lit, Nat.zero_add] at this
      obtain ⟨R, hR⟩ : ∃ R : Nat, rs[k]'(by rw [HN.out]; exact hlt) = R := ⟨_, rfl⟩
      rw [hR] at hr HT
      have cA := HA.out wr hbw
      have HO2 : Hid (OwnC wr (w.heap.size + 1) u3 D ∧ AreO wr (w.heap.size + 1) D (mkC A (rs.take k)) ∧ Own32 0 wr (.slice (some ⟨gl, 0, none⟩) n cl) (ints rs)) := ⟨hown, hare, hol⟩
      have hge : Hid (∀ k, u3.ownBlock = some k → w.heap.size + 1 ≤ k) := fun k hk => (owns_block hown k hk).1
      have hlen3 : D.length + 1 ≤ 33554432 := by omega
      clear hown hare hR hol
      go_wp2_with fail
      refine cA.mono ?_; rintro r w5 ⟨v5, rfl, own5, hb5⟩
      obtain ⟨p5, c5, rfl⟩ := own_slice own5
      have b5 := hbw.trans (hb5.mono hbw.size)
      have ba : Below w5.heap.size w5 (w5.alloc (.cells (ceC ((R : Int), ⟨#[]⟩, z0, p5, A.length, c5)) 175)) := (Below.refl _ _).alloc (Nat.le_refl _) _
      have b6 := b5.trans (ba.mono b5.size)
      have hh := hb5.trans (ba.mono hb5.size)
      have HR6 : Hid (RowC (w5.alloc (.cells (ceC ((R : Int), ⟨#[]⟩, z0, p5, A.length, c5)) 175)) (.slice (some ⟨w5.heap.size, 0, none⟩) 1 1) [((R : Int), ⟨#[]⟩, z0, p5, A.length, c5)]) := one_rowC w5 _
      have HO6 : Hid (OwnC (w5.alloc (.cells (ceC ((R : Int), ⟨#[]⟩, z0, p5, A.length, c5)) 175)) (w.heap.size + 1) u3 D) := owns_below HO2.out.1 hh
      have HE6 : Hid (AreO (w5.alloc (.cells (ceC ((R : Int), ⟨#[]⟩, z0, p5, A.length, c5)) 175)) (w.heap.size + 1) (D ++ [((R : Int), ⟨#[]⟩, z0, p5, A.length, c5)]) (mkC A (rs.take (k + 1))) ∧ Own32 0 (w5.alloc (.cells (ceC ((R : Int), ⟨#[]⟩, z0, p5, A.length, c5)) 175)) (.slice (some ⟨gl, 0, none⟩) n cl) (ints rs)) := by
        refine ⟨?_, owns_below HO2.out.2.2 hh⟩
        rw [HT.out]
        exact forall2_append (HO2.out.2.1.keep (keepA_below hh)) (.cons ⟨rfl, rfl, rfl, own_weaken (owns_below own5 ba) hsw⟩ .nil)
      have ew6 : (w5.alloc (.cells (ceC ((R : Int), ⟨#[]⟩, z0, p5, A.length, c5)) 175)).cell? ⟨w.heap.size, 6, none⟩ = some s := (hh.cell (lt_of_cell e6)).trans e6
      have hlen6 : D.length + ([((R : Int), ⟨#[]⟩, z0, p5, A.length, c5)] : List CV).length ≤ 33554432 := by simpa using hlen3
      have hsz6 : w.heap.size + 1 ≤ (w5.alloc (.cells (ceC ((R : Int), ⟨#[]⟩, z0, p5, A.length, c5)) 175)).heap.size := by have := hb5.size; simp; omega
      have hs5 : w.heap.size + 1 ≤ w5.heap.size := Nat.le_trans hsw hb5.size
      clear own5 HO2 HT cA hb5 ba e6 hr hh
      go_wp2_with (at_builtin; refine wpList_append_cells rfl (.tmp 27) (.tmp 33) rfl (w.heap.size + 1) u3 D rfl HO6.out _ _ rfl HR6.out hlen6 hsz6 ?_; intro v' w7 own7 gr7)
      have HE7 := HE6.out.1.keep (keepA_grown HO6.out gr7)
      have HL7 := keep32_own HE6.out.2 (keep32_grown HO6.out gr7)
      have ew7 : w7.cell? ⟨w.heap.size, 6, none⟩ = some s := by
        rw [World.cell?_of_block (a := ⟨w.heap.size, 6, none⟩) (gr7.block w.heap.size (by simp; omega) (fun e => by have := hge.out _ e.symm; omega))]; exact ew6
      have b7 : Below w.heap.size w w7 := b6.grown gr7 b6.size (fun k hk => by have := hge.out k hk; omega)
      have hs7 : w.heap.size + 1 ≤ w7.heap.size := Nat.le_trans hsz6 gr7.size
      go_roundw
      case rel => exact ⟨k + 1, _, by omega, by go_num, by simp [hDl], own7, HE7, HL7, b7, ew7, hs7⟩
      case measure => simp [RowKit.intOf]; omega
    · have hltI : ¬ (k : Int) < n := by omega
      have hall : rs.take k = rs := List.take_of_length_le (by rw [HN.out]; omega)
      rw [hall, ← HE.out] at hare
      have HO : Hid (OwnC wr w.heap.size u3 D ∧ AreO wr w.heap.size D C) := ⟨own_weaken hown (Nat.le_succ _), All2.imp (fun d e h => ⟨h.1, h.2.1, h.2.2.1, own_weaken h.2.2.2 (Nat.le_succ _)⟩) hare⟩
      clear hown hare hol
      go_wp2
      go_ret
      exact ⟨_, rfl, D, HO.out.1, HO.out.2, hbw⟩
end Go.Proofs.YtplnojapnaaakaaGreatDoor

/- The document's deltas: Same, SameOp, Insert, Len. -/
namespace Go.Proofs.YtplnojapnaaakaaGreatDoor
open Go Go.RowKit Go.Lib
set_option linter.unusedVariables false
set_option maxHeartbeats 1000000 in
theorem ins6_any (o : Op5) (p : Option Addr) (l c : Nat) (w : World) : Calls Tryz.prog 44 #[opV o (.slice p l c)] w fun r w' => r = .returned (.bool (decide (o.k = 1 ∨ o.k = 2))) ∧ Below w.heap.size w w' := by
  obtain ⟨k, t, ⟨x, n, u⟩, cc, A⟩ := o
  simp only
  by_cases k1 : k = 1
  · subst k1
    rw [decide_eq_true (Or.inl rfl)]
    go_enter Tryz.func44, Tryz.ntmps44
    go_wp2
    go_ret
    exact ⟨rfl, by go_grown⟩
  · have e1 : (k == 1) = false := by simpa using k1
    by_cases k2 : k = 2
    · subst k2
      rw [decide_eq_true (Or.inr rfl)]
      go_enter Tryz.func44, Tryz.ntmps44
      go_wp2
      go_ret
      exact ⟨rfl, by go_grown⟩
    · have e2 : (k == 2) = false := by simpa using k2
      rw [decide_eq_false (by omega)]
      go_enter Tryz.func44, Tryz.ntmps44
      go_wp2
      go_ret
      exact ⟨rfl, by go_grown⟩
end Go.Proofs.YtplnojapnaaakaaGreatDoor

/- The document's deltas: Len. -/
namespace Go.Proofs.YtplnojapnaaakaaGreatDoor
open Go Go.RowKit Go.Lib
set_option linter.unusedVariables false
set_option maxHeartbeats 2000000 in
set_option maxRecDepth 100000 in
theorem len6t_any (o : Op5) (p : Option Addr) (l c : Nat) (w : World) (hk : o.k = 1) (hu : brk o.t.data.toList = o.t.size) (ht : o.t.size ≤ 8388608) :
    Calls Tryz.prog 94 #[opV o (.slice p l c)] w fun r w' => r = .returned (.int .i64 (scs o.t.data.toList).length) ∧ Below w.heap.size w w' := by
  obtain ⟨k, t, ⟨x, z, u⟩, cc, A⟩ := o
  simp only at hk hu ht ⊢
  subst hk
  obtain ⟨h1, h2, h3⟩ := valid_text t hu
  obtain ⟨rs, hrs⟩ : ∃ rs, scs t.data.toList = rs := ⟨_, rfl⟩
  rw [hrs] at h1 h2 h3 ⊢
  obtain ⟨n, hnn⟩ : ∃ n, rs.length = n := ⟨_, rfl⟩
  rw [hnn] at h3 ⊢
  have HV : Hid (t.data.toList = encs rs) := h2
  have HN : Hid (rs.length = n) := hnn
  obtain ⟨W0, hW0⟩ : ∃ W, W = w.alloc (.cells #[.int .i64 1, .string t, .int .i64 x, .int .i64 z, .string u, .int .i64 cc, .slice p l c] 33) := ⟨_, rfl⟩
  have b0 : Below w.heap.size w W0 := by rw [hW0]; exact (Below.refl _ _).alloc (Nat.le_refl _) _
  have e0 : W0.cell? ⟨w.heap.size, 0, none⟩ = some (.int .i64 1) := by rw [hW0]; simp
  have e1 : W0.cell? ⟨w.heap.size, 1, none⟩ = some (.string t) := by rw [hW0]; simp
  have hit0 : (W0.iter t 0).heap[W0.heap.size]? = some (.stringIter t 0) := World.iter_heap W0 t 0
  have bi : Below W0.heap.size W0 (W0.iter t 0) := (Below.refl _ _).alloc (Nat.le_refl _) _
  have hbi : Below w.heap.size w (W0.iter t 0) := b0.trans (bi.mono b0.size)
  clear hu h2 hnn hrs
  go_enter Tryz.func94, Tryz.ntmps94
  go_upto_region 1 with fail
  rw [← hW0]
  clear hW0
  go_wp2
  obtain ⟨K, hKK⟩ : ∃ K, K = W0.heap.size := ⟨_, rfl⟩
  have hKw : w.heap.size ≤ K := by rw [hKK]; exact b0.size
  rw [← hKK] at hit0 ⊢
  obtain ⟨wi, hwi⟩ : ∃ wi, wi = W0.iter t 0 := ⟨_, rfl⟩
  rw [← hwi] at hit0 hbi ⊢
  clear hwi bi hKK b0 e0 e1
  go_loopw [3] (fun v wr => ∃ (i : Nat), i ≤ n ∧ v = .int .i64 i ∧ wr.heap[K]? = some (.stringIter t (pos rs i)) ∧ Below w.heap.size w wr) (fun _ wr => t.size - wr.iterPos K)
  case atStart => exact ⟨0, Nat.zero_le _, rfl, hit0, hbi⟩
  case round =>
    clear hit0 hbi
    obtain ⟨i, hin, rfl, hit, hbw⟩ := hrel
    by_cases hlt : i < n
    · obtain ⟨hd, hp⟩ := decode_pos t rs HV.out h1 i (by rw [HN.out]; exact hlt)
      have hps := pos_succ rs i (by rw [HN.out]; exact hlt)
      have hpl := enc_pos (h1 _ (List.getElem_mem (show i < rs.length by rw [HN.out]; exact hlt)))
      obtain ⟨R, hR⟩ : ∃ R, rs[i]'(by rw [HN.out]; exact hlt) = R := ⟨_, rfl⟩
      rw [hR] at hd hps hpl
      have hpq : pos rs i < pos rs (i + 1) := by omega
      have hnx : ∀ ty, (Instr.next (.pointer (some ⟨K, 0, none⟩)) true ty).run Tryz.prog wr = .ok (.tuple #[.bool true, .int .i64 (pos rs i), .int .i32 R]) (wr.iterAt K t (pos rs (i + 1))) := fun ty => by
        have := run_next_any_at (P := Tryz.prog) wr K t (pos rs i) ty hit hp
        rw [hd] at this
        rw [this, hps]
      have hit2 := iterAt_heap wr K t (pos rs i) (pos rs (i + 1)) hit
      have hbw2 := below_iterAt hbw hKw t (pos rs (i + 1))
      have hpos : wr.iterPos K = pos rs i := by simp [World.iterPos, hit]
      have hpos2 : (wr.iterAt K t (pos rs (i + 1))).iterPos K = pos rs (i + 1) := by simp [World.iterPos, hit2]
      have HQ : Hid ((wr.iterAt K t (pos rs (i + 1))).heap[K]? = some (.stringIter t (pos rs (i + 1))) ∧ Below w.heap.size w (wr.iterAt K t (pos rs (i + 1))) ∧ (wr.iterAt K t (pos rs (i + 1))).iterPos K = pos rs (i + 1) ∧ pos rs i < pos rs (i + 1) ∧ pos rs i < t.size ∧ wr.iterPos K = pos rs i) := ⟨hit2, hbw2, hpos2, hpq, hp, hpos⟩
      clear hd hps hpl hR hit hbw hit2 hbw2 hpos hpos2 hpq
      go_wp2
      go_roundw
      case rel => exact ⟨i + 1, by omega, by go_num, HQ.out.1, HQ.out.2.1⟩
      case measure =>
        obtain ⟨_, _, x1, x2, x3, x4⟩ := HQ.out
        rw [x1, x4]
        omega
    · have he : i = n := by omega
      have hpe : ¬ pos rs i < t.size := by
        rw [he, ← HN.out, pos_all, ← HV.out, size_toList]; omega
      have hnx : ∀ ty, (Instr.next (.pointer (some ⟨K, 0, none⟩)) true ty).run Tryz.prog wr = _ := fun ty => run_next_end_at wr K t _ ty hit hpe
      clear hpe hit h1
      subst he
      go_wp2
      go_ret
      exact ⟨rfl, hbw⟩
set_option maxHeartbeats 1000000 in
theorem len6_any (o : Op5) (p : Option Addr) (l c : Nat) (w : World) (hg : opE o = 0) (ht : o.t.size ≤ 8388608) :
    Calls Tryz.prog 94 #[opV o (.slice p l c)] w fun r w' => r = .returned (.int .i64 (len5 o)) ∧ Below w.heap.size w w' := by
  rcases op_good hg with ⟨hi, hk⟩ | ⟨hc, _, hk⟩ | ⟨hc, _, hk⟩
  · unfold len5
    rw [if_pos hk]
    unfold lenO
    rcases hk with hk | hk
    · rw [if_pos hk]
      exact len6t_any o p l c w hk hi.utf ht
    · rw [if_neg (by omega)]
      obtain ⟨k, t, ⟨x, n, u⟩, cc, A⟩ := o
      simp only at hk
      subst hk
      clear hi ht hg
      go_enter Tryz.func94, Tryz.ntmps94
      go_wp2
      go_ret
      exact ⟨rfl, by go_grown⟩
  · unfold len5
    rw [if_neg (by omega)]
    obtain ⟨k, t, ⟨x, n, u⟩, cc, A⟩ := o
    simp only at hk
    subst hk
    clear hc ht hg
    go_enter Tryz.func94, Tryz.ntmps94
    go_wp2
    go_ret
    exact ⟨rfl, by go_grown⟩
  · unfold len5
    rw [if_neg (by omega)]
    obtain ⟨k, t, ⟨x, n, u⟩, cc, A⟩ := o
    simp only at hk
    subst hk
    clear hc ht hg
    go_enter Tryz.func94, Tryz.ntmps94
    go_wp2
    go_ret
    exact ⟨rfl, by go_grown⟩
end Go.Proofs.YtplnojapnaaakaaGreatDoor

/- vellumhand.Make, Is; vellumlaw06's gone, text, large, lives. -/
namespace Go.Proofs.YtplnojapnaaakaaGreatDoor
open Go Go.RowKit Go.Lib
set_option linter.unusedVariables false
/-- Lists that the calls read. -/
structure OkR (E : List Op5) : Prop where
  n : ∀ o ∈ E, o.A.length ≤ 1048576
  len : E.length ≤ 2097152
/-- A text to insert. -/
def txtO (t : ByteArray) : Op5 := ⟨1, t, z0, 0, []⟩
end Go.Proofs.YtplnojapnaaakaaGreatDoor

/- vellumlaw06.lives answers true. -/
namespace Go.Proofs.YtplnojapnaaakaaGreatDoor
open Go Go.RowKit Go.Lib
set_option linter.unusedVariables false
/-- A row of operations laid at once. -/
theorem row_blk {w : World} {b : Nat} {D : List OV} (h : w.heap[b]? = some (.cells (cellsO D).toArray 33 (0, 0))) : RowO w (.slice (some ⟨b, 0, none⟩) D.length D.length) D := by
  refine ⟨some ⟨b, 0, none⟩, D.length, rfl, Nat.le_refl _, fun h => (by cases h), fun j d hd => ⟨b, 0, rfl, ?_⟩⟩
  obtain ⟨k0, k1, k2, k3, k4, k5, k6⟩ := cellsO_get D j d hd
  have e : ∀ i u, (cellsO D)[i]? = some u → w.cell? ⟨b, i, none⟩ = some u := fun i u hu => by
    rw [cell_of_heap h]
    rw [List.getElem?_toArray]
    exact hu
  rw [Nat.zero_add]
  exact ⟨e _ _ k0, e _ _ k1, e _ _ k2, e _ _ k3, e _ _ k4, e _ _ k5, e _ _ k6⟩
/-- An operation without attributes, as it lies in memory. -/
abbrev ovN (o : Op5) : OV := (o.k, o.t, o.v, o.c, (none, 0, 0))
theorem re_blk {w : World} {b : Nat} {E : List Op5} (h : w.heap[b]? = some (.cells (cellsO (E.map ovN)).toArray 33 (0, 0))) (hA : ∀ o ∈ E, o.A = []) : ReO w (.slice (some ⟨b, 0, none⟩) E.length E.length) E := by
  refine ⟨E.map ovN, ?_, ?_⟩
  · have := row_blk h
    rw [List.length_map] at this
    exact this
  · clear h
    induction E with
    | nil => exact .nil
    | cons o r ih =>
      refine .cons ⟨rfl, rfl, rfl, rfl, ?_⟩ (ih fun x hx => hA x (List.mem_cons_of_mem _ hx))
      rw [hA o (List.mem_cons_self ..)]
      exact RN.nil w
theorem fit_nil {o : Op5} (h1 : o.t.size ≤ 8388608) (h2 : o.v.2.2.size ≤ 1048576) (h3 : o.A = []) : Fit o := ⟨h1, h2, fun q hq => (by rw [h3] at hq; cases hq), by rw [h3]; simp⟩
end Go.Proofs.YtplnojapnaaakaaGreatDoor

/- Canonical lists of operations in order are in order. -/
namespace Go.Proofs.YtplnojapnaaakaaGreatDoor
open Go Go.RowKit Go.Lib
set_option linter.unusedVariables false
theorem trim_sub (P : List Op5) : (∀ x ∈ trimL P, x ∈ P) ∧ txtS (trimL P) ≤ txtS P ∧ (trimL P).length ≤ P.length := by
  rcases List.eq_nil_or_concat P with rfl | ⟨F, x, rfl⟩
  · exact ⟨fun x h => h, Nat.le_refl _, Nat.le_refl _⟩
  · rw [List.concat_eq_append]
    have e : trimL (F ++ [x]) = if plainR x then F else F ++ [x] := by
      unfold trimL
      rw [List.getLast?_concat, List.dropLast_concat]
    rw [e]
    split
    · exact ⟨fun y h => List.mem_append_left _ h, by rw [txtS_append]; omega, by simp⟩
    · exact ⟨fun y h => h, Nat.le_refl _, Nat.le_refl _⟩
/-- The canonical list of operations in order is in order, and no greater. -/
theorem canon_ok {E : List Op5} (h : OkE E) : OkE (canonL E) ∧ txtS (canonL E) ≤ txtS E ∧ (canonL E).length ≤ E.length := by
  have hz : BSz (bldR E) E.length (txtS E) := by
    have := bldR_sz E BSz.nil h.fit
    rw [Nat.zero_add, Nat.zero_add] at this
    exact this
  obtain ⟨c1, c2, c3, c4⟩ := canon_spec h.wel
  obtain ⟨s1, s2⟩ := canon_sums h.wel
  have key : (∀ x ∈ canonL E, FitA x) ∧ txtS (canonL E) ≤ txtS E ∧ (canonL E).length ≤ E.length := by
    rw [← finB_canon h.wel]
    obtain ⟨a, b, c⟩ := hz.set
    have a2 := hz.fit
    have b2 := hz.txt
    have c2 := hz.len
    unfold finB
    by_cases h0 : 0 < (bldR E).2
    · rw [if_pos h0]
      unfold setB at a b c
      rw [if_pos h0] at a b c
      exact ⟨a, b, c⟩
    · rw [if_neg h0]
      obtain ⟨t1, t2, t3⟩ := trim_sub (bldR E).1
      exact ⟨fun x hx => a2 x (t1 x hx), by omega, by omega⟩
  have hb := h.base
  have hr := h.res
  have ht := h.txt
  have hl := h.len
  exact ⟨⟨wel_good c1 (by omega), key.1, by omega, by omega, by omega, by omega⟩, key.2⟩
theorem OkE.okR {E : List Op5} (h : OkE E) (hl : E.length ≤ 2097152) : OkR E := ⟨fun o ho => (h.fit o ho).n, hl⟩
theorem OkE.fitL {E : List Op5} (h : OkE E) : FitL E := fitA_all h.fit h.txt
end Go.Proofs.YtplnojapnaaakaaGreatDoor

/- Next and Rest of a Walker. -/
namespace Go.Proofs.YtplnojapnaaakaaGreatDoor
open Go Go.RowKit Go.Lib
set_option linter.unusedVariables false
/-- What a Walker's row tells, one by one. -/
theorem WkV.row {w : World} {B q g : Nat} {R : List Op5} (h : WkV w B q g R) : ∃ p cap, w.cell? ⟨q, 0, none⟩ = some (.slice p R.length cap) ∧ R.length ≤ cap ∧ ∀ j, j < R.length → ∃ off e s, p = some ⟨g, off, none⟩ ∧ R[j]? = some e ∧ w.cell? ⟨g, off + j, none⟩ = some (pieceQ e s) ∧ OwnA w B s e.A := by
  obtain ⟨_, _, _, p, cap, h4, h5, h6⟩ := h
  refine ⟨p, cap, by rw [cell_of_heap h4]; rfl, h5, fun j hj => ?_⟩
  obtain ⟨off, cs, e, hgo, hr⟩ := h6 (fun h0 => by rw [h0] at hj; simp at hj)
  obtain ⟨s, a1, a2⟩ := hr j R[j] (List.getElem?_eq_getElem hj)
  exact ⟨off, R[j], s, e, List.getElem?_eq_getElem hj, by rw [cell_of_heap hgo]; exact a1, a2⟩
end Go.Proofs.YtplnojapnaaakaaGreatDoor

/- One step of two Walkers. -/
namespace Go.Proofs.YtplnojapnaaakaaGreatDoor
open Go Go.RowKit Go.Lib
set_option linter.unusedVariables false
/-- What a step tells, and what is left then. -/
def st7 (R S : List Op5) : (Option Op5 × Option Op5) × List Op5 × List Op5 :=
  if kind7 S = 1 ∨ kind7 S = 2 then ((none, some (nx7 S (left7 S)).1), R, (nx7 S (left7 S)).2)
  else if kind7 R = 4 then ((some (nx7 R (left7 R)).1, none), (nx7 R (left7 R)).2, S)
  else ((some (nx7 R (min (left7 R) (left7 S))).1, some (nx7 S (min (left7 R) (left7 S))).1), (nx7 R (min (left7 R) (left7 S))).2, (nx7 S (min (left7 R) (left7 S))).2)
/-- A piece in memory, or nil. -/
def PcV (w : World) (B : Nat) (v : Value) : Option Op5 → Prop
  | none => v = .nilIface
  | some e => ∃ s, v = pieceQ e s ∧ OwnA w B s e.A
theorem PcV.keep {w w' : World} {B : Nat} {v : Value} {o : Option Op5} (h : PcV w B v o) (k : KeepA w w') : PcV w' B v o := by
  cases o with
  | none => exact h
  | some e => obtain ⟨s, h1, h2⟩ := h; exact ⟨s, h1, keepA_own h2 k⟩
theorem asDel_no {o : Op5} (s : Value) (hg : opE o = 0) (hk : o.k ≠ 4) (W : World) : (Instr.typeAssert (pieceQ o s) 56 97 true).run Tryz.prog W = .ok (.tuple #[.agg #[.int .i64 0], .bool false]) W := by
  rcases kinds_of hg with h | h | h | h
  · rw [pieceQ_1 h]; exact as_i_d _ W
  · rw [pieceQ_2 h]; exact as_e_d _ W
  · rw [pieceQ_3 h]; exact as_r_d _ W
  · exact absurd h hk
theorem asDel_yes {o : Op5} (s : Value) (hk : o.k = 4) (W : World) : (Instr.typeAssert (pieceQ o s) 56 97 true).run Tryz.prog W = .ok (.tuple #[.agg #[.int .i64 o.c], .bool true]) W := by
  rw [pieceQ_4 hk]; exact as_d_d _ W
theorem left_range {R : List Op5} {N T K : Nat} (h : Rst R N T K) (hT : T ≤ 8388608) (hN : N ≤ 4194304) : 1 ≤ left7 R ∧ left7 R ≤ 1099511627776 := by
  cases R with
  | nil => exact ⟨by show (1 : Int) ≤ 1099511627776; omega, Int.le_refl _⟩
  | cons x r =>
    have hx := h.good x (List.mem_cons_self ..)
    exact ⟨len5_pos hx, (len5_range hx ((h.okE hT hN).fitL x (List.mem_cons_self ..))).2⟩
structure Two (w : World) (B qa ga qb gb : Nat) (R S : List Op5) : Prop where
  a : WkV w B qa ga R
  b : WkV w B qb gb S
  n1 : qa ≠ qb ∧ qa ≠ gb
  n2 : ga ≠ qb ∧ ga ≠ gb
theorem Two.below {w w' : World} {B qa ga qb gb : Nat} {R S : List Op5} (h : Two w B qa ga qb gb R S) (b : Below w.heap.size w w') : Two w' B qa ga qb gb R S := ⟨h.a.below b, h.b.below b, h.n1, h.n2⟩
theorem Two.stepA {w w' : World} {B qa ga qb gb : Nat} {R R' S : List Op5} (h : Two w B qa ga qb gb R S) (hw : WkV w' B qa ga R') (f : FrW qa ga w w') : Two w' B qa ga qb gb R' S :=
  ⟨hw, h.b.other f ⟨Ne.symm h.n1.1, Ne.symm h.n2.1⟩ ⟨Ne.symm h.n1.2, Ne.symm h.n2.2⟩, h.n1, h.n2⟩
theorem Two.stepB {w w' : World} {B qa ga qb gb : Nat} {R S S' : List Op5} (h : Two w B qa ga qb gb R S) (hw : WkV w' B qb gb S') (f : FrW qb gb w w') : Two w' B qa ga qb gb R S' :=
  ⟨h.a.other f h.n1 h.n2, hw, h.n1, h.n2⟩
/-- What a step of two Walkers turns: their own cells and rows. -/
structure Fr4 (qa ga qb gb : Nat) (w w' : World) : Prop where
  os : w'.os = w.os
  tape : w'.tape = w.tape
  output : w'.output = w.output
  size : w.heap.size ≤ w'.heap.size
  kept : ∀ (k : Nat) (o : Obj), w.heap[k]? = some o → (¬ isTW o ∨ (k ≠ qa ∧ k ≠ ga ∧ k ≠ qb ∧ k ≠ gb)) → w'.heap[k]? = some o
theorem Fr4.trans {qa ga qb gb : Nat} {a b c : World} (h : Fr4 qa ga qb gb a b) (k : Fr4 qa ga qb gb b c) : Fr4 qa ga qb gb a c :=
  ⟨k.os.trans h.os, k.tape.trans h.tape, k.output.trans h.output, Nat.le_trans h.size k.size, fun i o hi ho => k.kept i o (h.kept i o hi ho) ho⟩
theorem Fr4.of_below {qa ga qb gb : Nat} {w w' : World} (h : Below w.heap.size w w') : Fr4 qa ga qb gb w w' :=
  ⟨h.os, h.tape, h.output, h.size, fun k o hk _ => (h.block k (Array.getElem?_eq_some_iff.1 hk).1).trans hk⟩
theorem FrW.left {qa ga qb gb : Nat} {w w' : World} (h : FrW qa ga w w') : Fr4 qa ga qb gb w w' := ⟨h.os, h.tape, h.output, h.size, fun k o hk ho => h.kept k o hk (ho.imp id fun q => ⟨q.1, q.2.1⟩)⟩
theorem FrW.right {qa ga qb gb : Nat} {w w' : World} (h : FrW qb gb w w') : Fr4 qa ga qb gb w w' := ⟨h.os, h.tape, h.output, h.size, fun k o hk ho => h.kept k o hk (ho.imp id fun q => ⟨q.2.2.1, q.2.2.2⟩)⟩
theorem Fr4.it {qa ga qb gb B : Nat} {w w' : World} (h : Fr4 qa ga qb gb w w') (h1 : B ≤ qa ∧ B ≤ ga ∧ B ≤ qb ∧ B ≤ gb) : It7 TW B w w' :=
  ⟨h.os, h.tape, h.output, h.size, fun k o hk ho => h.kept k o hk (ho.elim (fun q => .inr (by omega)) (fun q => .inl q))⟩
def Step4 (w w' : World) (B qa ga qb gb : Nat) (R S : List Op5) (e : Ending) : Prop :=
  ∃ p q, e = .returned (.tuple #[p, q]) ∧ PcV w' B p (st7 R S).1.1 ∧ PcV w' B q (st7 R S).1.2 ∧ Two w' B qa ga qb gb (st7 R S).2.1 (st7 R S).2.2 ∧ Fr4 qa ga qb gb w w'
set_option maxHeartbeats 4000000 in
set_option maxRecDepth 100000 in
theorem step4_any {B qa ga qb gb : Nat} {R S : List Op5} {N T K : Nat} (w : World) (h : Two w B qa ga qb gb R S) (hR : Rst R N T K) (hS : Rst S N T K) (hT : T ≤ 8388608) (hK : K ≤ 2097152) (hN : N ≤ 4194304) :
    Calls Tryz.prog 68 #[.pointer (some ⟨qa, 0, none⟩), .pointer (some ⟨qb, 0, none⟩)] w fun e w' => Step4 w w' B qa ga qb gb R S e := by
  have HH : Hid (Two w B qa ga qb gb R S) := h
  have lR := left_range hR hT hN
  have lS := left_range hS hT hN
  have cNB := next7_any w h.b
  have cIB := fun p l c W => inserts_any (top7 S) p l c W (top_good hS.good)
  rw [top_kind] at cIB
  have cLB := fun W (hW : Two W B qa ga qb gb R S) => left7_any W hW.b hS.good
  have cLA := fun W (hW : Two W B qa ga qb gb R S) => left7_any W hW.a hR.good
  have cNA := fun W (hW : Two W B qa ga qb gb R S) => next7_any W hW.a
  have cTA := fun (n : Int) W (hW : WkV W B qa ga R) (hn : 1 ≤ n ∧ n ≤ 1099511627776) => take_any n W hW hR hT hK (by omega) ⟨hn.1, by omega⟩
  have cTB := fun (n : Int) W (hW : WkV W B qb gb S) (hn : 1 ≤ n ∧ n ≤ 1099511627776) => take_any n W hW hS hT hK (by omega) ⟨hn.1, by omega⟩
  have HB : Hid (B ≤ w.heap.size) := (by have := h.a.lq; have := h.a.lt; show _ ≤ _; omega)
  have HQ : Hid (B ≤ qa ∧ B ≤ ga ∧ B ≤ qb ∧ B ≤ gb) := ⟨h.a.lq, h.a.lg, h.b.lq, h.b.lg⟩
  obtain ⟨TS, hTS⟩ : ∃ T, top7 S = T := ⟨_, rfl⟩
  rw [hTS] at cNB
  simp only [hTS] at cIB
  have gTR := top_good hR.good
  have kTR := top_kind R
  obtain ⟨TR, hTR⟩ : ∃ T, top7 R = T := ⟨_, rfl⟩
  simp only [hTR] at cNA
  rw [hTR] at gTR kTR
  obtain ⟨LR, hLR⟩ : ∃ x, left7 R = x := ⟨_, rfl⟩
  obtain ⟨LS, hLS⟩ : ∃ x, left7 S = x := ⟨_, rfl⟩
  have HL : Hid (left7 R = LR ∧ left7 S = LS) := ⟨hLR, hLS⟩
  rw [hLR] at lR
  rw [hLS] at lS
  simp only [hLS] at cLB
  simp only [hLR] at cLA
  clear h hR hS hTS hTR hLR hLS
  by_cases h1 : kind7 S = 1 ∨ kind7 S = 2
  · have HS : Hid (st7 R S = ((none, some (nx7 S LS).1), R, (nx7 S LS).2)) := by show _ = _; unfold st7; rw [if_pos h1, HL.out.2]
    rw [decide_eq_true h1] at cIB
    clear h1 cLA cNA cTA gTR kTR
    go_enter Tryz.func68, Tryz.ntmps68
    go_wp2_with fail
    refine cNB.mono ?_; rintro r w2 ⟨s, rfl, own2, hb2⟩
    obtain ⟨p2, c2, rfl⟩ := own_slice own2
    obtain ⟨u, x, hux⟩ := pieceQ_if TS (.slice p2 TS.A.length c2)
    have cI := cIB p2 TS.A.length c2 w2
    rw [hux] at cI ⊢
    clear cNB cIB own2 hux
    go_wp2_with fail
    refine cI.mono ?_; rintro r w3 ⟨rfl, hb3⟩
    have b3 := hb2.trans (hb3.mono hb2.size)
    have H3 : Hid (Two w3 B qa ga qb gb R S ∧ Fr4 qa ga qb gb w w3) := ⟨HH.out.below b3, Fr4.of_below b3⟩
    have cL := cLB w3 H3.out.1
    clear cLB cI hb2 hb3 b3
    go_wp2_with fail
    refine cL.mono ?_; rintro r w4 ⟨rfl, hb4⟩
    have H4 : Hid (Two w4 B qa ga qb gb R S ∧ Fr4 qa ga qb gb w w4) := ⟨H3.out.1.below hb4, H3.out.2.trans (Fr4.of_below hb4)⟩
    have cT := cTB LS w4 H4.out.1.b lS
    clear cL cTB H3 hb4
    go_wp2_with fail
    refine cT.mono ?_; rintro r w5 ⟨s5, rfl, o5, k5, f5⟩
    obtain ⟨u5, x5, hux5⟩ := pieceQ_if (nx7 S LS).1 s5
    have H5 : Hid (pieceQ (nx7 S LS).1 s5 = .iface u5 x5 ∧ OwnA w5 B s5 (nx7 S LS).1.A ∧ Two w5 B qa ga qb gb R (nx7 S LS).2 ∧ Fr4 qa ga qb gb w w5) := ⟨hux5, o5, H4.out.1.stepB k5 f5, H4.out.2.trans f5.right⟩
    rw [hux5]
    clear cT o5 k5 f5 hux5
    go_wp2
    go_ret2
    unfold Step4
    rw [HS.out]
    exact ⟨_, _, rfl, rfl, ⟨s5, H5.out.1.symm, H5.out.2.1⟩, H5.out.2.2⟩
  · rw [decide_eq_false h1] at cIB
    by_cases h2 : kind7 R = 4
    · have HS : Hid (st7 R S = ((some (nx7 R LR).1, none), (nx7 R LR).2, S)) := by show _ = _; unfold st7; rw [if_neg h1, if_pos h2, HL.out.1]
      have aD := fun s W => asDel_yes (o := TR) s (by omega) W
      clear h1 cLB cTB gTR kTR
      go_enter Tryz.func68, Tryz.ntmps68
      go_wp2_with fail
      refine cNB.mono ?_; rintro r w2 ⟨s, rfl, own2, hb2⟩
      obtain ⟨p2, c2, rfl⟩ := own_slice own2
      obtain ⟨u, x, hux⟩ := pieceQ_if TS (.slice p2 TS.A.length c2)
      have cI := cIB p2 TS.A.length c2 w2
      rw [hux] at cI ⊢
      clear cNB cIB own2 hux
      go_wp2_with fail
      refine cI.mono ?_; rintro r w3 ⟨rfl, hb3⟩
      have b3 := hb2.trans (hb3.mono hb2.size)
      have H3 : Hid (Two w3 B qa ga qb gb R S ∧ Fr4 qa ga qb gb w w3) := ⟨HH.out.below b3, Fr4.of_below b3⟩
      have cN := cNA w3 H3.out.1
      clear cNA cI hb2 hb3 b3
      go_wp2_with fail
      refine cN.mono ?_; rintro r w4 ⟨s4, rfl, own4, hb4⟩
      obtain ⟨u4, x4, hux4⟩ := pieceQ_if TR s4
      have a4 := aD s4
      rw [hux4] at a4 ⊢
      have H4 : Hid (Two (w4.alloc (.cells #[.int .i64 TR.c] 97)) B qa ga qb gb R S ∧ Fr4 qa ga qb gb w (w4.alloc (.cells #[.int .i64 TR.c] 97))) := ⟨(H3.out.1.below hb4).below ((Below.refl _ _).alloc (Nat.le_refl _) _), (H3.out.2.trans (Fr4.of_below hb4)).trans (Fr4.of_below ((Below.refl _ _).alloc (Nat.le_refl _) _))⟩
      have cL := cLA _ H4.out.1
      clear cN H3 own4 hb4 hux4 aD cLA
      go_wp2_with fail
      refine cL.mono ?_; rintro r w5 ⟨rfl, hb5⟩
      have H5 : Hid (Two w5 B qa ga qb gb R S ∧ Fr4 qa ga qb gb w w5) := ⟨H4.out.1.below hb5, H4.out.2.trans (Fr4.of_below hb5)⟩
      have cT := cTA LR w5 H5.out.1.a lR
      clear cL cTA H4 hb5
      go_wp2_with fail
      refine cT.mono ?_; rintro r w6 ⟨s6, rfl, o6, k6, f6⟩
      obtain ⟨u6, x6, hux6⟩ := pieceQ_if (nx7 R LR).1 s6
      have H6 : Hid (pieceQ (nx7 R LR).1 s6 = .iface u6 x6 ∧ OwnA w6 B s6 (nx7 R LR).1.A ∧ Two w6 B qa ga qb gb (nx7 R LR).2 S ∧ Fr4 qa ga qb gb w w6) := ⟨hux6, o6, H5.out.1.stepA k6 f6, H5.out.2.trans f6.left⟩
      rw [hux6]
      clear cT o6 k6 f6 hux6
      go_wp2
      go_ret2
      unfold Step4
      rw [HS.out]
      exact ⟨_, _, rfl, ⟨s6, H6.out.1.symm, H6.out.2.1⟩, rfl, H6.out.2.2⟩
    · have HS : Hid (st7 R S = ((some (nx7 R (min LR LS)).1, some (nx7 S (min LR LS)).1), (nx7 R (min LR LS)).2, (nx7 S (min LR LS)).2)) := by show _ = _; unfold st7; rw [if_neg h1, if_neg h2, HL.out.1, HL.out.2]
      have aD := fun s W => asDel_no (o := TR) s gTR (by omega) W
      obtain ⟨M, hM⟩ : ∃ M, min LR LS = M := ⟨_, rfl⟩
      have lM : 1 ≤ M ∧ M ≤ 1099511627776 := by omega
      rw [hM] at HS
      have HM : Hid (min LR LS = M) := hM
      clear h1 h2 gTR kTR hM
      go_enter Tryz.func68, Tryz.ntmps68
      go_wp2_with fail
      refine cNB.mono ?_; rintro r w2 ⟨s, rfl, own2, hb2⟩
      obtain ⟨p2, c2, rfl⟩ := own_slice own2
      obtain ⟨u, x, hux⟩ := pieceQ_if TS (.slice p2 TS.A.length c2)
      have cI := cIB p2 TS.A.length c2 w2
      rw [hux] at cI ⊢
      clear cNB cIB own2 hux
      go_wp2_with fail
      refine cI.mono ?_; rintro r w3 ⟨rfl, hb3⟩
      have b3 := hb2.trans (hb3.mono hb2.size)
      have H3 : Hid (Two w3 B qa ga qb gb R S ∧ Fr4 qa ga qb gb w w3) := ⟨HH.out.below b3, Fr4.of_below b3⟩
      have cN := cNA w3 H3.out.1
      clear cNA cI hb2 hb3 b3
      go_wp2_with fail
      refine cN.mono ?_; rintro r w4 ⟨s4, rfl, own4, hb4⟩
      obtain ⟨u4, x4, hux4⟩ := pieceQ_if TR s4
      have a4 := aD s4
      rw [hux4] at a4 ⊢
      have H4 : Hid (Two (w4.alloc (.cells #[.int .i64 0] 97)) B qa ga qb gb R S ∧ Fr4 qa ga qb gb w (w4.alloc (.cells #[.int .i64 0] 97))) := ⟨(H3.out.1.below hb4).below ((Below.refl _ _).alloc (Nat.le_refl _) _), (H3.out.2.trans (Fr4.of_below hb4)).trans (Fr4.of_below ((Below.refl _ _).alloc (Nat.le_refl _) _))⟩
      have cL := cLA _ H4.out.1
      clear cN H3 own4 hb4 hux4 aD cLA
      go_wp2_with fail
      refine cL.mono ?_; rintro r w5 ⟨rfl, hb5⟩
      have H5 : Hid (Two w5 B qa ga qb gb R S ∧ Fr4 qa ga qb gb w w5) := ⟨H4.out.1.below hb5, H4.out.2.trans (Fr4.of_below hb5)⟩
      have cL2 := cLB _ H5.out.1
      clear cL H4 hb5 cLB
      go_wp2_with fail
      refine cL2.mono ?_; rintro r w6 ⟨rfl, hb6⟩
      have H6 : Hid (Two w6 B qa ga qb gb R S ∧ Fr4 qa ga qb gb w w6) := ⟨H5.out.1.below hb6, H5.out.2.trans (Fr4.of_below hb6)⟩
      clear cL2 H5 hb6
      have cT := cTA M w6 H6.out.1.a lM
      clear cTA
      go_wp2_with fail
      rw [HM.out]
      refine cT.mono ?_; rintro r w7 ⟨s7, rfl, o7, k7, f7⟩
      obtain ⟨u7, x7, hux7⟩ := pieceQ_if (nx7 R M).1 s7
      have H7 : Hid (pieceQ (nx7 R M).1 s7 = .iface u7 x7 ∧ OwnA w7 B s7 (nx7 R M).1.A ∧ Two w7 B qa ga qb gb (nx7 R M).2 S ∧ Fr4 qa ga qb gb w w7) := ⟨hux7, o7, H6.out.1.stepA k7 f7, H6.out.2.trans f7.left⟩
      rw [hux7]
      have cU := cTB M w7 H7.out.2.2.1.b lM
      clear cT o7 k7 f7 hux7 cTB
      go_wp2_with fail
      refine cU.mono ?_; rintro r w8 ⟨s8, rfl, o8, k8, f8⟩
      obtain ⟨u8, x8, hux8⟩ := pieceQ_if (nx7 S M).1 s8
      have H8 : Hid (pieceQ (nx7 R M).1 s7 = .iface u7 x7 ∧ pieceQ (nx7 S M).1 s8 = .iface u8 x8 ∧ OwnA w8 B s7 (nx7 R M).1.A ∧ OwnA w8 B s8 (nx7 S M).1.A ∧ Two w8 B qa ga qb gb (nx7 R M).2 (nx7 S M).2 ∧ Fr4 qa ga qb gb w w8) := ⟨H7.out.1, hux8, keepA_own H7.out.2.1 f8.keepA, o8, H7.out.2.2.1.stepB k8 f8, H7.out.2.2.2.trans f8.right⟩
      rw [hux8]
      clear cU o8 k8 f8 hux8
      go_wp2
      go_ret2
      unfold Step4
      rw [HS.out]
      exact ⟨_, _, rfl, ⟨s7, H8.out.1.symm, H8.out.2.2.1⟩, ⟨s8, H8.out.2.1.symm, H8.out.2.2.2.1⟩, H8.out.2.2.2.2⟩
end Go.Proofs.YtplnojapnaaakaaGreatDoor

/- What Steps' function hands over, for whatever loop body. -/
namespace Go.Proofs.YtplnojapnaaakaaGreatDoor
open Go Go.RowKit Go.Lib Go.Shelf
set_option linter.unusedVariables false
attribute [local go_sem] Oper.semAt_some
/-- Both deltas behind k steps; what step k tells. -/
def it7 (R S : List Op5) : Nat → List Op5 × List Op5
  | 0 => (R, S)
  | k + 1 => (st7 (it7 R S k).1 (it7 R S k).2).2
def out7 (R S : List Op5) (k : Nat) : Option Op5 × Option Op5 := (st7 (it7 R S k).1 (it7 R S k).2).1
theorem st_ins {R S : List Op5} (h : kind7 S = 1 ∨ kind7 S = 2) : st7 R S = ((none, some (nx7 S (left7 S)).1), R, (nx7 S (left7 S)).2) := if_pos h
theorem st_del {R S : List Op5} (h : ¬ (kind7 S = 1 ∨ kind7 S = 2)) (h2 : kind7 R = 4) : st7 R S = ((some (nx7 R (left7 R)).1, none), (nx7 R (left7 R)).2, S) := by unfold st7; rw [if_neg h, if_pos h2]
theorem st_both {R S : List Op5} (h : ¬ (kind7 S = 1 ∨ kind7 S = 2)) (h2 : ¬ kind7 R = 4) : st7 R S = ((some (nx7 R (min (left7 R) (left7 S))).1, some (nx7 S (min (left7 R) (left7 S))).1), (nx7 R (min (left7 R) (left7 S))).2, (nx7 S (min (left7 R) (left7 S))).2) := by unfold st7; rw [if_neg h, if_neg h2]
theorem Rst.step {R S : List Op5} {N T K : Nat} (hR : Rst R N T K) (hS : Rst S N T K) (hT : T ≤ 8388608) (hN : N ≤ 4194304) : Rst (st7 R S).2.1 N T K ∧ Rst (st7 R S).2.2 N T K := by
  have lR := left_range hR hT hN
  have lS := left_range hS hT hN
  by_cases h : kind7 S = 1 ∨ kind7 S = 2
  · rw [st_ins h]; exact ⟨hR, hS.next lS.1⟩
  · by_cases h2 : kind7 R = 4
    · rw [st_del h h2]; exact ⟨hR.next lR.1, hS⟩
    · rw [st_both h h2]; exact ⟨hR.next (by omega), hS.next (by omega)⟩
theorem it_rst {R S : List Op5} {N T K : Nat} (hR : Rst R N T K) (hS : Rst S N T K) (hT : T ≤ 8388608) (hN : N ≤ 4194304) : ∀ k, Rst (it7 R S k).1 N T K ∧ Rst (it7 R S k).2 N T K
  | 0 => ⟨hR, hS⟩
  | k + 1 => by
    obtain ⟨h1, h2⟩ := it_rst hR hS hT hN k
    exact h1.step h2 hT hN
theorem nx_len {R : List Op5} (n : Int) : (nx7 R n).2.length ≤ R.length ∧ (R ≠ [] → left7 R ≤ n → (nx7 R n).2.length + 1 = R.length) := by
  cases R with
  | nil => exact ⟨Nat.le_refl _, fun h => absurd rfl h⟩
  | cons x r =>
    by_cases h : len5 x ≤ n
    · rw [nx_all h]; exact ⟨by simp, fun _ _ => by simp⟩
    · rw [nx_part h]; exact ⟨by simp, fun _ h2 => absurd h2 h⟩
theorem kind_ne {S : List Op5} (h : kind7 S ≠ 3) : S ≠ [] := fun e => h (by rw [e]; rfl)
theorem st_len {R S : List Op5} {N T K : Nat} (hR : Rst R N T K) (hS : Rst S N T K) (hT : T ≤ 8388608) (hN : N ≤ 4194304) (h0 : ¬ (R = [] ∧ S = [])) : (st7 R S).2.1.length + (st7 R S).2.2.length < R.length + S.length := by
  have lR := left_range hR hT hN
  have lS := left_range hS hT hN
  by_cases h : kind7 S = 1 ∨ kind7 S = 2
  · rw [st_ins h]
    have := (nx_len (R := S) (left7 S)).2 (kind_ne (by omega)) (Int.le_refl _)
    show R.length + (nx7 S (left7 S)).2.length < _
    omega
  · by_cases h2 : kind7 R = 4
    · rw [st_del h h2]
      have := (nx_len (R := R) (left7 R)).2 (kind_ne (by omega)) (Int.le_refl _)
      show (nx7 R (left7 R)).2.length + S.length < _
      omega
    · rw [st_both h h2]
      obtain ⟨a1, a2⟩ := nx_len (R := R) (min (left7 R) (left7 S))
      obtain ⟨b1, b2⟩ := nx_len (R := S) (min (left7 R) (left7 S))
      show (nx7 R (min (left7 R) (left7 S))).2.length + (nx7 S (min (left7 R) (left7 S))).2.length < _
      by_cases e1 : R = []
      · have e2 : S ≠ [] := fun e => h0 ⟨e1, e⟩
        have : left7 R = 1099511627776 := by rw [e1]; rfl
        have := b2 e2 (by omega)
        omega
      · by_cases e2 : S = []
        · have : left7 S = 1099511627776 := by rw [e2]; rfl
          have := a2 e1 (by omega)
          omega
        · by_cases hl : left7 R ≤ left7 S
          · have := a2 e1 (by omega)
            omega
          · have := b2 e2 (by omega)
            omega
/-- The steps up to number k are told, and neither is done ahead of it. -/
def Run7 (R S : List Op5) (k : Nat) : Prop := ∀ j, j < k → ¬ ((it7 R S j).1 = [] ∧ (it7 R S j).2 = [])
theorem run_len {R S : List Op5} {N T K : Nat} (hR : Rst R N T K) (hS : Rst S N T K) (hT : T ≤ 8388608) (hN : N ≤ 4194304) : ∀ k, Run7 R S k → (it7 R S k).1.length + (it7 R S k).2.length + k ≤ R.length + S.length
  | 0, _ => by show R.length + S.length + 0 ≤ _; omega
  | k + 1, h => by
    have ih := run_len hR hS hT hN k fun j hj => h j (by omega)
    obtain ⟨h1, h2⟩ := it_rst hR hS hT hN k
    have := st_len h1 h2 hT hN (h k (by omega))
    show (st7 (it7 R S k).1 (it7 R S k).2).2.1.length + (st7 (it7 R S k).1 (it7 R S k).2).2.2.length + (k + 1) ≤ _
    omega
theorem steps7_call {B1 B2 C1 C2 : Nat} (v v' : Value) (E F : List Op5) (w : World) (h : DelV w B1 B2 v E) (h' : DelV w C1 C2 v' F) :
    Calls Tryz.prog 20 #[v, v'] w fun r w' => ∃ x y, r = .returned (.func (.func 67) #[] #[.pointer (some ⟨x, 0, none⟩), .pointer (some ⟨y, 0, none⟩)]) ∧ BoxD w' x B1 B2 E ∧ BoxD w' y C1 C2 F ∧ Below w.heap.size w w' := by
  have bA : Below w.heap.size w ((w.alloc (.cells #[v] 36)).alloc (.cells #[v'] 36)) := ((Below.refl _ _).alloc (Nat.le_refl _) _).alloc (by simp) _
  have HD : Hid (DelV ((w.alloc (.cells #[v] 36)).alloc (.cells #[v'] 36)) B1 B2 v E ∧ DelV ((w.alloc (.cells #[v] 36)).alloc (.cells #[v'] 36)) C1 C2 v' F) := ⟨h.below bA, h'.below bA⟩
  obtain ⟨q, pv, PL, rfl, _⟩ := h
  obtain ⟨q', pv', PL', rfl, _⟩ := h'
  go_enter Tryz.func20, Tryz.ntmps20
  go_wp2
  go_ret
  exact ⟨_, _, rfl, ⟨_, by simp, HD.out.1⟩, ⟨_, by simp, HD.out.2⟩, bA⟩

/-- Two pieces, or nil. -/
abbrev encS (x : Value × Value) : Array Value := #[x.1, x.2]
def GS (E F : List Op5) (B0 : Nat) (pre : List (Value × Value)) (x : Value × Value) (W : World) : Prop :=
  ¬ ((it7 E F pre.length).1 = [] ∧ (it7 E F pre.length).2 = []) ∧ Run7 E F pre.length ∧ PcV W B0 x.1 (out7 E F pre.length).1 ∧ PcV W B0 x.2 (out7 E F pre.length).2
theorem PcV.bk {B B' : Nat} {v : Value} {o : Option Op5} {A A' : World} (h : PcV A B v o) (k : Bk7 B' A A') : PcV A' B v o := h.keep fun j cur hj => by rw [k.kept j _ hj (.inr rfl), hj]
theorem GS.bk {E F : List Op5} {B0 B : Nat} {pre : List (Value × Value)} {x : Value × Value} {A A' : World} (h : GS E F B0 pre x A) (k : Bk7 B A A') : GS E F B0 pre x A' :=
  ⟨h.1, h.2.1, h.2.2.1.bk k, h.2.2.2.bk k⟩
theorem PcV.low {w : World} {B B' : Nat} {v : Value} {o : Option Op5} (h : PcV w B v o) (hb : B' ≤ B) : PcV w B' v o := by
  cases o with
  | none => exact h
  | some e => obtain ⟨s, h1, h2⟩ := h; exact ⟨s, h1, own_weaken h2 hb⟩
theorem WkV.low {w : World} {B B' q g : Nat} {R : List Op5} (h : WkV w B q g R) (hb : B' ≤ B) : WkV w B' q g R := by
  obtain ⟨h1, h2, h3, p, cap, h4, h5, h6⟩ := h
  refine ⟨h1, by omega, by omega, p, cap, h4, h5, fun h0 => ?_⟩
  obtain ⟨off, cs, e, hgo, hr⟩ := h6 h0
  refine ⟨off, cs, e, hgo, fun j x hx => ?_⟩
  obtain ⟨s, a1, a2⟩ := hr j x hx
  exact ⟨s, a1, own_weaken a2 hb⟩
theorem WkV.nilG {w : World} {B q g g' : Nat} (h : WkV w B q g []) (h1 : q ≠ g') (h2 : B ≤ g') : WkV w B q g' [] := by
  obtain ⟨_, h3, _, p, cap, h4, h5, _⟩ := h
  exact ⟨h1, h3, h2, p, cap, h4, h5, fun h => absurd rfl h⟩
/-- How many pieces a Walker has before it. -/
def wlen (w : World) (q : Nat) : Nat := match w.cell? ⟨q, 0, none⟩ with | some (.slice _ n _) => n | _ => 0
theorem wlen_of {w : World} {B q g : Nat} {R : List Op5} (h : WkV w B q g R) : wlen w q = R.length := by
  obtain ⟨p, cap, c0, _⟩ := h.read0
  unfold wlen
  rw [c0]
abbrev NewR (W w' : World) (E : List Op5) (r : Ending) : Prop := ∃ q g, r = .returned (.pointer (some ⟨q, 0, none⟩)) ∧ WkV w' W.heap.size q g E ∧ (E ≠ [] → g < w'.heap.size) ∧ Below W.heap.size W w'
end Go.Proofs.YtplnojapnaaakaaGreatDoor

/- vellumref04.SameOps and vellumspare.Kept at operations that are the same. -/
namespace Go.Proofs.YtplnojapnaaakaaGreatDoor
open Go Go.RowKit Go.Lib
set_option linter.unusedVariables false
set_option maxHeartbeats 2000000 in
set_option maxRecDepth 100000 in
theorem sameOps_any (v v' : Value) (E : List Op5) (w : World) (h : ReO w v E) (h' : ReO w v' E) (hl : E.length ≤ 1048576) (hA : ∀ e ∈ E, e.A.length ≤ 1048576) :
    Calls Tryz.prog 27 #[v, v'] w fun r w' => r = .returned (.bool true) ∧ Below w.heap.size w w' := by
  obtain ⟨D, hrow, hre⟩ := h
  obtain ⟨D', hrow', hre'⟩ := h'
  have hE := forall2_len hre
  have hE' := forall2_len hre'
  obtain ⟨n, hn⟩ : ∃ n, D.length = n := ⟨_, rfl⟩
  have hm : D'.length = n := by omega
  obtain ⟨pa, ca, rfl, ha, _, hca⟩ := hrow
  obtain ⟨pb, cb, rfl, hb, _, hcb⟩ := hrow'
  rw [hn] at ha hE ⊢
  rw [hm] at hb hE' ⊢
  have HN : Hid (D.length = n ∧ D'.length = n ∧ E.length = n) := ⟨hn, hm, hE.symm⟩
  have HA : Hid (∀ (j : Nat) (d : OV), D[j]? = some d → ∃ b off, pa = some ⟨b, off, none⟩ ∧ OpAt w b (off + j * 7) d) := hca
  have HB : Hid (∀ (j : Nat) (d : OV), D'[j]? = some d → ∃ b off, pb = some ⟨b, off, none⟩ ∧ OpAt w b (off + j * 7) d) := hcb
  have hl : n ≤ 1048576 := by omega
  have CC : Hid (∀ W (k : Nat) d d', Below w.heap.size w W → D[k]? = some d → D'[k]? = some d' → Calls Tryz.prog 69 #[ovV d, ovV d'] W fun r w' => r = .returned (.bool true) ∧ Below W.heap.size W w') := fun W k d d' hW h1 h2 => by
    obtain ⟨y, hy, r1⟩ := forall2_get (hre.below hW) k d h1
    obtain ⟨y', hy', r2⟩ := forall2_get (hre'.below hW) k d' h2
    obtain rfl : y = y' := Option.some.inj (hy.symm.trans hy')
    have hly := hA y (List.mem_of_getElem? hy)
    have := sameR_any y y (slV d.2.2.2.2) (slV d'.2.2.2.2) W r1.2.2.2.2.row r2.2.2.2.2.row (by omega) (by omega)
    rw [decide_eq_true rfl] at this
    obtain ⟨e1, e2, e3, e4, _⟩ := r1
    obtain ⟨g1, g2, g3, g4, _⟩ := r2
    obtain ⟨dk, dt, dv, dc, ds⟩ := d
    obtain ⟨dk', dt', dv', dc', ds'⟩ := d'
    simp only at e1 e2 e3 e4 g1 g2 g3 g4
    subst e1 e2 e3 e4 g1 g2 g3 g4
    exact this
  clear hca hcb hn hm hre hre' hE hE' hA
  go_enter Tryz.func27, Tryz.ntmps27
  go_wp2
  go_loopw [14, 5, 6] (fun i _ _ wr => ∃ (k : Nat), k ≤ n ∧ i = .int .i64 k ∧ Below w.heap.size w wr) (fun i _ _ _ => n - (RowKit.intOf i).toNat)
  case atStart => exact ⟨0, Nat.zero_le _, rfl, Below.refl _ _⟩
  case round =>
    obtain ⟨k, hk, rfl, hbw⟩ := hrel
    by_cases hlt : k < n
    · have hltI : (k : Int) < n := by omega
      obtain ⟨d, hd⟩ : ∃ q, D[k]? = some q := ⟨_, List.getElem?_eq_getElem (by rw [HN.out.1]; exact hlt)⟩
      obtain ⟨d', hd'⟩ : ∃ q, D'[k]? = some q := ⟨_, List.getElem?_eq_getElem (by rw [HN.out.2.1]; exact hlt)⟩
      have cc := fun W hW => CC.out W k d d' hW hd hd'
      obtain ⟨b, off, rfl, hin⟩ := HA.out k d hd
      obtain ⟨b', off', rfl, hin'⟩ := HB.out k d' hd'
      obtain ⟨c0, c1, c2, c3, c4, c5, c6⟩ := hin.below hbw
      obtain ⟨d0, d1, d2, d3, d4, d5, d6⟩ := hin'.below hbw
      clear hin hin' hd hd'
      obtain ⟨f, t, ⟨x, z, u⟩, cc1, p, j, c⟩ := d
      obtain ⟨f', t', ⟨x', z', u'⟩, cc1', p', j', c'⟩ := d'
      simp only [slV] at c0 c1 c2 c3 c4 c5 c6 d0 d1 d2 d3 d4 d5 d6
      simp only [ovV, ovC, slV] at cc
      have HU : Hid (∀ w', Below wr.drew.heap.size wr.drew w' → (w'.cell? ⟨b, off + k * 7, none⟩ = some (.int .i64 f) ∧ w'.cell? ⟨b, off + k * 7 + 1, none⟩ = some (.string t) ∧ w'.cell? ⟨b, off + k * 7 + 2, none⟩ = some (.int .i64 x) ∧ w'.cell? ⟨b, off + k * 7 + 3, none⟩ = some (.int .i64 z) ∧ w'.cell? ⟨b, off + k * 7 + 4, none⟩ = some (.string u) ∧ w'.cell? ⟨b, off + k * 7 + 5, none⟩ = some (.int .i64 cc1) ∧ w'.cell? ⟨b, off + k * 7 + 6, none⟩ = some (.slice p j c) ∧ w'.cell? ⟨b', off' + k * 7, none⟩ = some (.int .i64 f') ∧ w'.cell? ⟨b', off' + k * 7 + 1, none⟩ = some (.string t') ∧ w'.cell? ⟨b', off' + k * 7 + 2, none⟩ = some (.int .i64 x') ∧ w'.cell? ⟨b', off' + k * 7 + 3, none⟩ = some (.int .i64 z') ∧ w'.cell? ⟨b', off' + k * 7 + 4, none⟩ = some (.string u') ∧ w'.cell? ⟨b', off' + k * 7 + 5, none⟩ = some (.int .i64 cc1') ∧ w'.cell? ⟨b', off' + k * 7 + 6, none⟩ = some (.slice p' j' c'))) := fun w' hb => ⟨(hb.cell (lt_of_cell (w := wr.drew) c0)).trans c0, (hb.cell (lt_of_cell (w := wr.drew) c1)).trans c1, (hb.cell (lt_of_cell (w := wr.drew) c2)).trans c2, (hb.cell (lt_of_cell (w := wr.drew) c3)).trans c3, (hb.cell (lt_of_cell (w := wr.drew) c4)).trans c4, (hb.cell (lt_of_cell (w := wr.drew) c5)).trans c5, (hb.cell (lt_of_cell (w := wr.drew) c6)).trans c6, (hb.cell (lt_of_cell (w := wr.drew) d0)).trans d0, (hb.cell (lt_of_cell (w := wr.drew) d1)).trans d1, (hb.cell (lt_of_cell (w := wr.drew) d2)).trans d2, (hb.cell (lt_of_cell (w := wr.drew) d3)).trans d3, (hb.cell (lt_of_cell (w := wr.drew) d4)).trans d4, (hb.cell (lt_of_cell (w := wr.drew) d5)).trans d5, (hb.cell (lt_of_cell (w := wr.drew) d6)).trans d6⟩
      have hz0 : w.heap.size ≤ wr.drew.heap.size := hbw.size
      go_wp2_with fail
      go_region_held3 (fun w' => (w'.cell? ⟨b, off + k * 7, none⟩ = some (.int .i64 f) ∧ w'.cell? ⟨b, off + k * 7 + 1, none⟩ = some (.string t) ∧ w'.cell? ⟨b, off + k * 7 + 2, none⟩ = some (.int .i64 x) ∧ w'.cell? ⟨b, off + k * 7 + 3, none⟩ = some (.int .i64 z) ∧ w'.cell? ⟨b, off + k * 7 + 4, none⟩ = some (.string u) ∧ w'.cell? ⟨b, off + k * 7 + 5, none⟩ = some (.int .i64 cc1) ∧ w'.cell? ⟨b, off + k * 7 + 6, none⟩ = some (.slice p j c) ∧ w'.cell? ⟨b', off' + k * 7, none⟩ = some (.int .i64 f') ∧ w'.cell? ⟨b', off' + k * 7 + 1, none⟩ = some (.string t') ∧ w'.cell? ⟨b', off' + k * 7 + 2, none⟩ = some (.int .i64 x') ∧ w'.cell? ⟨b', off' + k * 7 + 3, none⟩ = some (.int .i64 z') ∧ w'.cell? ⟨b', off' + k * 7 + 4, none⟩ = some (.string u') ∧ w'.cell? ⟨b', off' + k * 7 + 5, none⟩ = some (.int .i64 cc1') ∧ w'.cell? ⟨b', off' + k * 7 + 6, none⟩ = some (.slice p' j' c')) ∧ Below w.heap.size w w')
        (exact ⟨by first | (with_reducible assumption) | (simp [*]; done), by first | (with_reducible assumption) | exact hbw.drew⟩)
        (first | (go_at_call 69; refine (cc _ ?_).mono ?_; (· first | assumption | exact hbw.drew | (apply And.right; assumption)); rintro r w3 ⟨rfl, b3⟩; have b4 : Below w.heap.size w w3 := (hbw.drew).trans (b3.mono hz0); have mm := HU.out _ b3))
      clear cc mm b3
      go_wp2
      go_roundw
      case rel => exact ⟨k + 1, by omega, by go_num, b4⟩
      case measure => simp [RowKit.intOf]; omega
    · have hltI : ¬ (k : Int) < n := by omega
      go_wp2
      go_ret
      exact ⟨rfl, hbw⟩

end Go.Proofs.YtplnojapnaaakaaGreatDoor

/- vellumspare.Attrs: a copy with a mark behind its end. -/
namespace Go.Proofs.YtplnojapnaaakaaGreatDoor
open Go Go.RowKit Go.Lib
set_option linter.unusedVariables false
set_option maxHeartbeats 2000000 in
set_option maxRecDepth 100000 in
theorem spA_any (v : Value) (A : List A2) (w : World) (hA : RowA w v A) (hl : A.length ≤ 1048576) :
    Calls Tryz.prog 95 #[v] w fun r w' => ∃ s, r = .returned (slV s) ∧ SpA w' w.heap.size w'.heap.size s A ∧ Below w.heap.size w w' := by
  obtain ⟨n, hn⟩ : ∃ n, A.length = n := ⟨_, rfl⟩
  obtain ⟨p, cap, rfl, hcap, hc⟩ := hA
  rw [hn] at hl hcap ⊢
  have HN : Hid (A.length = n) := hn
  have HC : Hid _ := hc
  clear hc hn
  by_cases h0 : n = 0
  · subst h0
    obtain rfl : A = [] := List.eq_nil_of_length_eq_zero HN.out
    go_enter Tryz.func95, Tryz.ntmps95
    go_wp2
    go_ret
    exact ⟨(none, 0, 0), rfl, Or.inl ⟨rfl, rfl⟩, Below.refl _ _⟩
  · have h0I : ((n : Int) == 0) = false := by simp; omega
    obtain ⟨q, hq⟩ : ∃ q, A[0]? = some q := ⟨_, List.getElem?_eq_getElem (by rw [HN.out]; omega)⟩
    obtain ⟨b, off, rfl, _⟩ := HC.out 0 q hq
    have hne : A ≠ [] := fun e => by have := HN.out; rw [e] at this; exact h0 this.symm
    have HE : Hid (A ≠ []) := hne
    clear hq hne h0
    have oE := own_empty' w w.heap.size (Nat.le_refl _)
    have bE := (Below.refl w.heap.size w).alloc (Nat.le_refl _) (.cells #[] 154)
    have hM : Hid (∀ (j : Nat) (x : A2), A[j]? = some x → PairAt (w.alloc (.cells #[] 154)) b (off + j * 4) x) := fun j x hx => by
      obtain ⟨b', off', he, h⟩ := HC.out j x hx
      cases he
      exact h.below bE
    have hL0 : ([] : List A2).length + n ≤ 2097152 := by simp; omega
    go_enter Tryz.func95, Tryz.ntmps95
    go_wp2_with (first
      | (at_builtin; refine wpList_append_atx rfl (.tmp 6) (.tmp 7) rfl w.heap.size (.slice (some ⟨w.heap.size, 0, none⟩) 0 0) [] rfl oE b off n cap A rfl HN.out hM.out hL0 bE.size ?_; intro v9 w9 own9 gr9 hat9; have b10 := (bE.grown gr9 bE.size (fun j hj => by simp only [Value.ownBlock, Option.some.injEq] at hj; omega)).alloc (by have h0 := gr9.size; have h1 := bE.size; omega) (.cells #[.string ⟨#[115, 112, 97, 114, 101]⟩, .int .i64 0, .int .i64 0, .string ⟨#[]⟩] 154); have O9 : Hid (OwnA w9 w.heap.size v9 A) := own9; have O10 : Hid (OwnA (w9.alloc (.cells #[.string ⟨#[115, 112, 97, 114, 101]⟩, .int .i64 0, .int .i64 0, .string ⟨#[]⟩] 154)) w.heap.size v9 A) := owns_below O9.out ((Below.refl _ _).alloc (Nat.le_refl _) _); have hL1 : Hid (A.length + 1 ≤ 2097152) := (by show _ ≤ _; rw [HN.out]; omega); have hge : Hid (∀ j, v9.ownBlock = some j → w.heap.size ≤ j) := (fun j hj => (owns_block O10.out j hj).1); clear own9 gr9 hat9 oE bE hM O9)
      | (at_builtin; refine wpList_append_atx rfl (.tmp 8) (.tmp 10) rfl w.heap.size v9 A rfl O10.out w9.heap.size 0 1 1 [s1] rfl rfl (one_at ⟨by simp, by simp, by simp, by simp⟩) hL1.out b10.size ?_; intro v11 w11 own11 gr11 hat11; have b11 := b10.grown gr11 b10.size (fun j hj => hge.out j hj); obtain ⟨p11, c11, e11, hc11, hr11⟩ := own_rowA own11; rw [show (A ++ [s1]).length = n + 1 by simp [HN.out]] at e11 hc11; subst e11; have HO : Hid (OwnA w11 w.heap.size (.slice p11 (n + 1) c11) (A ++ [s1])) := own11; have hcI : n ≤ c11 := (by omega); clear own11 gr11 hat11 O10 b10 hge hr11))
    go_ret
    have hO := HO.out
    have hN := HN.out
    rcases hO.2 with ⟨h1, h2⟩ | ⟨g, cap', cur, h1, h2, h3, h4, h5, h6, h7⟩
    · simp at h2
    · simp only [Value.slice.injEq] at h1
      obtain ⟨rfl, -, rfl⟩ := h1
      refine ⟨(some ⟨g, 0, none⟩, n, c11), rfl, Or.inr ⟨g, c11, HE.out, by rw [hN], h2, (Array.getElem?_eq_some_iff.1 h3).1, by omega, ?_⟩, b11⟩
      rw [show (A ++ [s1]).length = n + 1 by simp [hN]]
      exact hO
end Go.Proofs.YtplnojapnaaakaaGreatDoor

/- vellumspare.Copy: operations as new memory, with spare room. -/
namespace Go.Proofs.YtplnojapnaaakaaGreatDoor
open Go Go.RowKit Go.Lib
set_option linter.unusedVariables false
theorem spD_snoc {w : World} {lo hi : Nat} {D : List OV} {E : List Op5} {d : OV} {e : Op5} (h : SpD w lo hi D E) (h1 : d.1 = e.k ∧ d.2.1 = e.t ∧ d.2.2.1 = e.v ∧ d.2.2.2.1 = e.c ∧ SpA w lo hi d.2.2.2.2 e.A) : SpD w lo hi (D ++ [d]) (E ++ [e]) :=
  forall2_append h (.cons h1 .nil)

set_option maxHeartbeats 2000000 in
set_option maxRecDepth 100000 in
theorem copy_any (v : Value) (E : List Op5) (w : World) (hv : ReO w v E) (hl : E.length ≤ 1048576) (hA : ∀ e ∈ E, e.A.length ≤ 1048576) :
    Calls Tryz.prog 63 #[v] w fun r w' => ∃ v', r = .returned v' ∧ SpO w' w.heap.size w'.heap.size v' E ∧ Below w.heap.size w w' := by
  obtain ⟨D0, hrow, hre⟩ := hv
  have hDE := forall2_len hre
  obtain ⟨n, hn⟩ : ∃ n, D0.length = n := ⟨_, rfl⟩
  obtain ⟨p, cap, rfl, hcap, hnz, hc⟩ := hrow
  have HC : Hid (∀ (j : Nat) (d : OV), D0[j]? = some d → ∃ b off, p = some ⟨b, off, none⟩ ∧ OpAt w b (off + j * 7) d) := hc
  have HN : Hid (D0.length = n ∧ E.length = n) := ⟨hn, by rw [← hDE, hn]⟩
  have HE : Hid (ReD w D0 E ∧ ∀ e ∈ E, e.A.length ≤ 1048576) := ⟨hre, hA⟩
  have hl : n ≤ 1048576 := by rw [← hn, hDE]; exact hl
  rw [hn] at hcap ⊢
  clear hc hn hDE hre hA hnz
  have HS : Hid (∀ W, Below w.heap.size w W → ∀ (s : Sl) (A : List A2), RN w (slV s) A → A.length ≤ 1048576 → Calls Tryz.prog 95 #[slV s] W fun r w' => ∃ s', r = .returned (slV s') ∧ SpA w' W.heap.size w'.heap.size s' A ∧ Below W.heap.size W w') := fun W hW s A h1 h2 => spA_any _ A W (h1.below hW).row h2
  have o0 := own_emptyO w w.heap.size (Nat.le_refl _)
  have b0 := (Below.refl w.heap.size w).alloc (Nat.le_refl _) (.cells #[] 33)
  obtain ⟨W0, hW0⟩ : ∃ W, W = w.alloc (.cells #[] 33) := ⟨_, rfl⟩
  obtain ⟨v0, hv0⟩ : ∃ v0 : Value, v0 = .slice (some ⟨w.heap.size, 0, none⟩) 0 0 := ⟨_, rfl⟩
  rw [← hW0, ← hv0] at o0
  rw [← hW0] at b0
  go_enter Tryz.func63, Tryz.ntmps63
  go_wp2
  rw [← hW0, ← hv0]
  clear hW0 hv0
  go_loopw [3, 9] (fun o i wr => ∃ (k : Nat) (D : List OV), k ≤ n ∧ i = .int .i64 k ∧ D.length = k ∧ OwnO wr w.heap.size o D ∧ SpD wr w.heap.size wr.heap.size D (E.take k) ∧ Below w.heap.size w wr) (fun _ i _ => n - (RowKit.intOf i).toNat)
  case atStart => exact ⟨0, [], Nat.zero_le _, rfl, rfl, o0, .nil, b0⟩
  case round =>
    clear o0 b0
    obtain ⟨k, D, hk, rfl, hDl, hown, hsp, hbw⟩ := hrel
    by_cases hlt : k < n
    · have hltI : (k : Int) < n := by omega
      obtain ⟨d, hd⟩ : ∃ d, D0[k]? = some d := ⟨_, List.getElem?_eq_getElem (by rw [HN.out.1]; exact hlt)⟩
      obtain ⟨e, he, hr⟩ := forall2_get HE.out.1 k d hd
      obtain ⟨b, off, rfl, hp⟩ := HC.out k d hd
      obtain ⟨c0, c1, c2, c3, c4, c5, c6⟩ := hp.below hbw
      have cS := HS.out _ (hbw.alloc hbw.size (.cells (ovC d) 33)) d.2.2.2.2 e.A hr.2.2.2.2 (HE.out.2 e (List.mem_of_getElem? he))
      have HT : Hid (E.take (k + 1) = E.take k ++ [e]) := by show _ = _; rw [List.take_add_one, he]; rfl
      have HR : Hid (d.1 = e.k ∧ d.2.1 = e.t ∧ d.2.2.1 = e.v ∧ d.2.2.2.1 = e.c) := ⟨hr.1, hr.2.1, hr.2.2.1, hr.2.2.2.1⟩
      have HO : Hid (OwnO wr w.heap.size u3 D ∧ SpD wr w.heap.size wr.heap.size D (E.take k)) := ⟨hown, hsp⟩
      clear hd he hr hp hown hsp
      obtain ⟨dk, dt, ⟨dx, dn, du⟩, dc, ds⟩ := d
      obtain ⟨dp, dl, dcap⟩ := ds
      simp only [slV, ovC] at c0 c1 c2 c3 c4 c5 c6 cS
      go_wp2_with fail
      refine cS.mono ?_; rintro r w5 ⟨⟨sp, sl, sc⟩, rfl, sp5, hb5⟩
      obtain ⟨W4, hW4⟩ : ∃ W, W = wr.alloc (.cells #[.int .i64 dk, .string dt, .int .i64 dx, .int .i64 dn, .string du, .int .i64 dc, .slice dp dl dcap] 33) := ⟨_, rfl⟩
      rw [← hW4] at sp5 hb5
      have D4 : OpAt W4 wr.heap.size 0 (dk, dt, (dx, dn, du), dc, dp, dl, dcap) := by rw [hW4]; exact ⟨by simp, by simp, by simp, by simp, by simp, by simp, by simp⟩
      have b4 : Below wr.heap.size wr W4 := by rw [hW4]; exact (Below.refl _ _).alloc (Nat.le_refl _) _
      have s4 : W4.heap.size = wr.heap.size + 1 := by rw [hW4]; simp
      have f4 : W4.frozen? ⟨wr.heap.size, 6, none⟩ = false := by rw [hW4]; simp
      clear hW4 cS
      have f5 := (hb5.frozen (p := ⟨wr.heap.size, 6, none⟩) D4.lt).trans f4
      have D5 := D4.below hb5
      obtain ⟨q0, q1, q2, q3, q4, q5, q6⟩ := D4.below hb5
      simp only [Nat.zero_add, slV] at q0 q1 q2 q3 q4 q5 q6
      have b5 := b4.trans (hb5.mono b4.size)
      have hs5 := hb5.size
      clear D4 f4 c0 c1 c2 c3 c4 c5 c6
      go_upto_region 6 with fail
      obtain ⟨W6, hW6⟩ : ∃ W, W = w5.setCell ⟨wr.heap.size, 6, none⟩ (.slice sp sl sc) := ⟨_, rfl⟩
      have hq : ∀ i, i ≠ 6 → W6.cell? ⟨wr.heap.size, i, none⟩ = w5.cell? ⟨wr.heap.size, i, none⟩ := fun i hi => by
        rw [hW6]; exact World.cell?_setCell_other _ _ _ _ (fun e => by cases e; omega)
      have r0 := (hq 0 (by decide)).trans q0
      have r1 := (hq 1 (by decide)).trans q1
      have r2 := (hq 2 (by decide)).trans q2
      have r3 := (hq 3 (by decide)).trans q3
      have r4 := (hq 4 (by decide)).trans q4
      have r5 := (hq 5 (by decide)).trans q5
      have r6 : W6.cell? ⟨wr.heap.size, 6, none⟩ = some (.slice sp sl sc) := by rw [hW6]; exact World.cell?_setCell_same' _ _ _ (by rw [q6]; rfl)
      have b6 : Below wr.heap.size wr W6 := by rw [hW6]; exact b5.setCell (Nat.le_refl _) _
      have sp6 : SpA W6 w.heap.size W6.heap.size (sp, sl, sc) e.A := by
        have h1 := (sp5.setBelow (g := wr.heap.size) (by omega) 6 (.slice sp sl sc)).lower (lo' := w.heap.size) (by have := hbw.size; omega)
        rw [← hW6] at h1
        exact h1.upto (Below.refl _ _) (by rw [hW6]; simp)
      rw [← hW6]
      clear hW6 hq q0 q1 q2 q3 q4 q5 q6 D5 f5 b5 sp5 hb5 b4
      have ba : Below W6.heap.size W6 (W6.alloc (.cells #[.int .i64 dk, .string dt, .int .i64 dx, .int .i64 dn, .string du, .int .i64 dc, .slice sp sl sc] 33)) := (Below.refl _ _).alloc (Nat.le_refl _) _
      have b7 := b6.trans (ba.mono b6.size)
      have HO7 : Hid (OwnO (W6.alloc (.cells #[.int .i64 dk, .string dt, .int .i64 dx, .int .i64 dn, .string du, .int .i64 dc, .slice sp sl sc] 33)) w.heap.size u3 D ∧ OpAt (W6.alloc (.cells #[.int .i64 dk, .string dt, .int .i64 dx, .int .i64 dn, .string du, .int .i64 dc, .slice sp sl sc] 33)) W6.heap.size 0 (dk, dt, (dx, dn, du), dc, sp, sl, sc)) := ⟨owns_below HO.out.1 b7, ⟨by simp, by simp, by simp, by simp, by simp, by simp, by simp⟩⟩
      have HP7 : Hid (SpD (W6.alloc (.cells #[.int .i64 dk, .string dt, .int .i64 dx, .int .i64 dn, .string du, .int .i64 dc, .slice sp sl sc] 33)) w.heap.size (W6.alloc (.cells #[.int .i64 dk, .string dt, .int .i64 dx, .int .i64 dn, .string du, .int .i64 dc, .slice sp sl sc] 33)).heap.size (D ++ [(dk, dt, (dx, dn, du), dc, sp, sl, sc)]) (E.take (k + 1))) := by
        show SpD _ _ _ _ _
        rw [HT.out]
        refine spD_snoc (HO.out.2.upto b7 b7.size) ⟨HR.out.1, HR.out.2.1, HR.out.2.2.1, HR.out.2.2.2, sp6.below ba ba.size⟩
      have hge : Hid (∀ j, u3.ownBlock = some j → w.heap.size ≤ j) := fun j hj => (owns_block HO.out.1 j hj).1
      have bw7 := hbw.trans (b7.mono hbw.size)
      have hlen : D.length ≤ 33554432 := by omega
      clear sp6 ba b7 b6 HO HT HR
      go_wp2_with (at_builtin; refine wpList_append_ops rfl (.tmp 17) (.tmp 19) rfl w.heap.size u3 D rfl HO7.out.1 W6.heap.size 1 _ rfl HO7.out.2 hlen bw7.size ?_; intro v8 w8 own8 gr8 hat8)
      have hsp8 := HP7.out.keep (keepA_grownO HO7.out.1 gr8) gr8.size
      have b8 := bw7.grown gr8 bw7.size (fun j hj => hge.out j hj)
      go_roundw
      case rel => exact ⟨k + 1, _, by omega, by go_num, by simp [hDl], own8, hsp8, b8⟩
      case measure => simp [RowKit.intOf]; omega
    · have hltI : ¬ (k : Int) < n := by omega
      have hkn : k = n := by omega
      have hE : E.take k = E := List.take_of_length_le (by rw [HN.out.2]; omega)
      rw [hE] at hsp
      have ba : Below wr.heap.size wr (wr.alloc (.cells #[.int .i64 77, .string ⟨#[]⟩, .int .i64 0, .int .i64 0, .string ⟨#[]⟩, .int .i64 0, .slice none 0 0] 33)) := (Below.refl _ _).alloc (Nat.le_refl _) _
      have HO7 : Hid (OwnO (wr.alloc (.cells #[.int .i64 77, .string ⟨#[]⟩, .int .i64 0, .int .i64 0, .string ⟨#[]⟩, .int .i64 0, .slice none 0 0] 33)) w.heap.size u3 D ∧ OpAt (wr.alloc (.cells #[.int .i64 77, .string ⟨#[]⟩, .int .i64 0, .int .i64 0, .string ⟨#[]⟩, .int .i64 0, .slice none 0 0] 33)) wr.heap.size 0 d77) := ⟨owns_below hown ba, ⟨by simp, by simp, by first | (simp; done) | simp [z0], by first | (simp; done) | simp [z0], by first | (simp; done) | simp [z0], by simp, by simp⟩⟩
      have HP7 : Hid (SpD (wr.alloc (.cells #[.int .i64 77, .string ⟨#[]⟩, .int .i64 0, .int .i64 0, .string ⟨#[]⟩, .int .i64 0, .slice none 0 0] 33)) w.heap.size (wr.alloc (.cells #[.int .i64 77, .string ⟨#[]⟩, .int .i64 0, .int .i64 0, .string ⟨#[]⟩, .int .i64 0, .slice none 0 0] 33)).heap.size D E) := hsp.below ba ba.size
      have hge : Hid (∀ j, u3.ownBlock = some j → w.heap.size ≤ j) := fun j hj => (owns_block hown j hj).1
      have bw7 := hbw.trans (ba.mono hbw.size)
      have hlen : D.length ≤ 33554432 := by omega
      have HL : Hid (D.length = n) := by show _ = _; omega
      clear hown hsp ba hbw hDl
      go_wp2_with (at_builtin; refine wpList_append_ops rfl (.tmp 22) (.tmp 24) rfl w.heap.size u3 D rfl HO7.out.1 wr.heap.size 1 d77 rfl HO7.out.2 hlen bw7.size ?_; intro v8 w8 own8 gr8 hat8; have hsp8 : Hid (SpD w8 w.heap.size w8.heap.size D E) := HP7.out.keep (keepA_grownO HO7.out.1 gr8) gr8.size; have b8 := bw7.grown gr8 bw7.size (fun j hj => hge.out j hj); obtain ⟨p8, c8, e8, hc8, _, _⟩ := own_rowO own8; rw [show (D ++ [d77]).length = n + 1 by simp [HL.out]] at e8 hc8; subst e8; have HO8 : Hid (OwnO w8 w.heap.size (.slice p8 (n + 1) c8) (D ++ [d77])) := own8; have hcI : n ≤ c8 := (by omega); clear own8 gr8 hat8 HO7 HP7 bw7)
      go_ret
      have hO := HO8.out
      rcases hO.2 with ⟨h1, h2⟩ | ⟨g, cap', cur, h1, h2, h3, h4, h5, h6, h7⟩
      · simp at h2
      · simp only [Value.slice.injEq] at h1
        obtain ⟨rfl, -, rfl⟩ := h1
        refine ⟨_, rfl, ⟨g, c8, D, by rw [HN.out.2]; rfl, h2, (Array.getElem?_eq_some_iff.1 h3).1, by rw [HL.out, HN.out.2], ?_, hsp8.out⟩, b8⟩
        rw [show (D ++ [d77]).length = n + 1 by simp [HL.out]]
        exact hO
end Go.Proofs.YtplnojapnaaakaaGreatDoor

/- The document's deltas: push: an operation put behind others. -/
namespace Go.Proofs.YtplnojapnaaakaaGreatDoor
open Go Go.RowKit Go.Lib
set_option linter.unusedVariables false
/-- The cells of a row, one operation of it with another text and count. -/
theorem cellsO_set (F : List OV) (d : OV) (t : ByteArray) (c : Int) : ((cellsO (F ++ [d])).set (F.length * 7 + 1) (.string t)).set (F.length * 7 + 5) (.int .i64 c) = cellsO (F ++ [(d.1, t, d.2.2.1, c, d.2.2.2.2)]) := by
  rw [cellsO_append, cellsO_append]
  have hl := cellsO_len F
  rw [List.set_append_right _ _ (by omega), List.set_append_right _ _ (by omega), hl]
  rw [show F.length * 7 + 1 - F.length * 7 = 1 by omega, show F.length * 7 + 5 - F.length * 7 = 5 by omega]
  simp [cellsO]
theorem own_joinO {w : World} {B g cap : Nat} {F : List OV} {d : OV} (h : OwnO w B (.slice (some ⟨g, 0, none⟩) (F.length + 1) cap) (F ++ [d])) (t : ByteArray) (c : Int) :
    OwnO ((w.setCell ⟨g, F.length * 7 + 1, none⟩ (.string t)).setCell ⟨g, F.length * 7 + 5, none⟩ (.int .i64 c)) B (.slice (some ⟨g, 0, none⟩) (F.length + 1) cap) (F ++ [(d.1, t, d.2.2.1, c, d.2.2.2.2)]) := by
  have h' : w.ownsRow B 33 7 (.slice (some ⟨g, 0, none⟩) (F.length + 1) cap) (F.length + 1) (cellsO (F ++ [d])) := by
    have := h
    unfold OwnO at this
    rw [List.length_append] at this
    exact this
  have h1 := (h'.stored (F.length * 7 + 1) (.string t)).1
  have h2 := (h1.stored (F.length * 7 + 5) (.int .i64 c)).1
  rw [cellsO_set] at h2
  show World.ownsRow _ _ _ _ _ _ _
  rw [List.length_append]
  exact h2
/-- But for one row's block the memory stands. -/
structure Row1 (v : Value) (w w' : World) : Prop where
  os : w'.os = w.os
  tape : w'.tape = w.tape
  output : w'.output = w.output
  size : w.heap.size ≤ w'.heap.size
  block : ∀ k, k < w.heap.size → v.ownBlock ≠ some k → w'.heap[k]? = w.heap[k]?
theorem Row1.of_below {v : Value} {w w' : World} (h : Below w.heap.size w w') : Row1 v w w' := ⟨h.os, h.tape, h.output, h.size, fun k hk _ => h.block k hk⟩
theorem Row1.grown {v : Value} {a w w' : World} (h : Row1 v a w) (g : w.grownBy w' v.ownBlock) : Row1 v a w' :=
  ⟨g.os.trans h.os, g.tape.trans h.tape, g.output.trans h.output, Nat.le_trans h.size g.size, fun k hk hn => (g.block k (Nat.lt_of_lt_of_le hk h.size) (fun e => hn e.symm)).trans (h.block k hk hn)⟩
theorem Row1.setCell {v : Value} {a w : World} (h : Row1 v a w) {g : Nat} (hg : v.ownBlock = some g) (j : Nat) (u : Value) : Row1 v a (w.setCell ⟨g, j, none⟩ u) :=
  ⟨h.os, h.tape, h.output, by simpa [World.setCell] using h.size, fun k hk hn => (Below.heap_setCell _ _ _ _ (by intro e; obtain rfl : k = g := e; exact hn hg)).trans (h.block k hk hn)⟩
theorem Row1.drew {v : Value} {a w : World} (h : Row1 v a w) : Row1 v a w.drew := ⟨h.os, h.tape, h.output, h.size, h.block⟩
theorem Row1.below {v : Value} {w w' : World} {B : Nat} (h : Row1 v w w') (hB : B ≤ w.heap.size) (hv : ∀ k, v.ownBlock = some k → B ≤ k) : Below B w w' :=
  ⟨h.os, h.tape, h.output, h.size, fun k hk => h.block k (by omega) (fun e => by have := hv k e; omega)⟩
/-- What push answers: the row grown. -/
abbrev PushR (w0 : World) (B : Nat) (w w' : World) (v : Value) (e : Ending) (P : List Op5) : Prop := ∃ v' D', e = .returned v' ∧ OwnO w' B v' D' ∧ ReD w0 D' P ∧ Row1 v w w' ∧ (v'.ownBlock = v.ownBlock ∨ ∃ k, v'.ownBlock = some k ∧ w.heap.size ≤ k)

theorem Hid.mk' {p : Prop} (h : p) : Hid p := h
/-- What append finds behind the first region, from whatever world. -/
theorem push6_tail {w0 w : World} {B : Nat} {v : Value} {D : List OV} {P : List Op5} {o : Op5} {sp : Option Addr} {sl sc : Nat} (hB : B ≤ w.heap.size) (hw : Below w0.heap.size w0 w) (hv : OwnO w B v D) (hD : ReD w0 D P) (ho : RN w0 (.slice sp sl sc) o.A) (W1 : World) (h1 : Below w.heap.size w W1) :
    OwnO (W1.alloc (.cells (opC o (.slice sp sl sc)) 33)) B v D ∧ OpAt (W1.alloc (.cells (opC o (.slice sp sl sc)) 33)) W1.heap.size 0 (o.k, o.t, o.v, o.c, (sp, sl, sc)) ∧ B ≤ (W1.alloc (.cells (opC o (.slice sp sl sc)) 33)).heap.size ∧
      ∀ v8 w8, OwnO w8 B v8 (D ++ [(o.k, o.t, o.v, o.c, (sp, sl, sc))]) → (W1.alloc (.cells (opC o (.slice sp sl sc)) 33)).grownBy w8 v.ownBlock → (v8.ownBlock = v.ownBlock ∨ v8.ownBlock = some (W1.alloc (.cells (opC o (.slice sp sl sc)) 33)).heap.size) → PushR w0 B w w8 v (.returned v8) (P ++ [o]) := by
  have b1 : Below w.heap.size w (W1.alloc (.cells (opC o (.slice sp sl sc)) 33)) := h1.alloc h1.size _
  refine ⟨owns_below hv b1, ?_, Nat.le_trans hB b1.size, fun v8 w8 h2 h3 h4 => ⟨v8, _, rfl, h2, forall2_append hD (.cons ⟨rfl, rfl, rfl, rfl, ho⟩ .nil), (Row1.of_below b1).grown h3, h4.imp id (fun e => ⟨_, e, b1.size⟩)⟩⟩
  refine ⟨?_, ?_, ?_, ?_, ?_, ?_, ?_⟩ <;> simp [opC]
set_option maxHeartbeats 4000000 in
set_option maxRecDepth 100000 in
theorem push6_nil {w0 : World} {B : Nat} (v : Value) (D : List OV) (P : List Op5) (o : Op5) (sp : Option Addr) (sl sc : Nat) (w : World) (hB : B ≤ w.heap.size) (hw : Below w0.heap.size w0 w) (hv : OwnO w B v D) (hD : ReD w0 D P) (ho : RN w0 (.slice sp sl sc) o.A) (hl : P.length ≤ 8388608) (hP : P = []) :
    Calls Tryz.prog 45 #[v, opV o (.slice sp sl sc)] w fun e w' => PushR w0 B w w' v e (P ++ [o]) := by
  have hlen := forall2_len hD
  have ba : Below w.heap.size w (w.alloc (.cells (opC o (.slice sp sl sc)) 33)) := (Below.refl _ _).alloc (Nat.le_refl _) _
  have hl33 : D.length ≤ 33554432 := by omega
  have HT : Hid _ := fun W1 h1 => push6_tail hB hw hv hD ho W1 h1
  subst hP
  have hD0 : D = [] := List.eq_nil_of_length_eq_zero (by simpa using hlen)
  subst hD0
  obtain ⟨p, cap, e⟩ := own_slice hv
  obtain rfl : v = .slice p 0 cap := e
  obtain ⟨k, t, ⟨xx, n, u⟩, cc, A⟩ := o
  have HT' : Hid (∀ W1, Below w.heap.size w W1 → _) := HT
  simp only [opC] at ba
  have hba : ∀ q, Below w.heap.size w ((w.alloc (.cells #[.int .i64 k, .string t, .int .i64 xx, .int .i64 n, .string u, .int .i64 cc, .slice sp sl sc] 33)).drewN q) := fun q => below_drewN ba q
  have HBA : Hid (∀ q, Below w.heap.size w ((w.alloc (.cells #[.int .i64 k, .string t, .int .i64 xx, .int .i64 n, .string u, .int .i64 cc, .slice sp sl sc] 33)).drewN q)) := hba
  have HO2 : Hid (∀ q, OpAt (((w.alloc (.cells #[.int .i64 k, .string t, .int .i64 xx, .int .i64 n, .string u, .int .i64 cc, .slice sp sl sc] 33)).drewN q).alloc (.cells #[.int .i64 k, .string t, .int .i64 xx, .int .i64 n, .string u, .int .i64 cc, .slice sp sl sc] 33)) (w.heap.size + 1) 0 (k, t, (xx, n, u), cc, sp, sl, sc)) := fun q => by
    have h := (HT'.out _ (HBA.out q)).2.1
    have e : ((w.alloc (.cells #[.int .i64 k, .string t, .int .i64 xx, .int .i64 n, .string u, .int .i64 cc, .slice sp sl sc] 33)).drewN q).heap.size = w.heap.size + 1 := by show (w.alloc _).heap.size = _; simp
    rw [e] at h
    exact h
  clear hv hD ho hlen ba hw hB HT hl hba
  go_enter Tryz.func45, Tryz.ntmps45
  go_wp2
  go_quiet (fail)
  go_wp2_with (at_builtin; refine wpList_append_ops rfl (.tmp 38) (.tmp 40) rfl B (.slice p 0 cap) [] rfl (HT'.out _ (HBA.out _)).1 _ 1 _ rfl (HO2.out _) hl33 (HT'.out _ (HBA.out _)).2.2.1 ?_; intro v8 w8 own8 gr8 hat8; have HQ : Hid (PushR w0 B w w8 (.slice p 0 cap) (.returned v8) ([] ++ [_])) := (HT'.out _ (HBA.out _)).2.2.2 v8 w8 own8 gr8 hat8; clear own8 gr8 hat8 HT' HBA HO2)
  go_ret
  exact HQ.out
set_option maxHeartbeats 4000000 in
set_option maxRecDepth 100000 in
theorem push6_kind {w0 : World} {B : Nat} (v : Value) (D : List OV) (P : List Op5) (o : Op5) (sp : Option Addr) (sl sc : Nat) (w : World) (hB : B ≤ w.heap.size) (hw : Below w0.heap.size w0 w) (hv : OwnO w B v D) (hD : ReD w0 D P) (ho : RN w0 (.slice sp sl sc) o.A) (hl : P.length ≤ 8388608) (F : List Op5) (x : Op5) (hP : P = F ++ [x]) (hx : x.k ≠ o.k ∨ o.k = 2) :
    Calls Tryz.prog 45 #[v, opV o (.slice sp sl sc)] w fun e w' => PushR w0 B w w' v e (P ++ [o]) := by
  have hlen := forall2_len hD
  have ba : Below w.heap.size w (w.alloc (.cells (opC o (.slice sp sl sc)) 33)) := (Below.refl _ _).alloc (Nat.le_refl _) _
  have hl33 : D.length ≤ 33554432 := by omega
  have HT : Hid _ := fun W1 h1 => push6_tail hB hw hv hD ho W1 h1
  subst hP
  obtain ⟨FD, d, rfl, hFD, hxd⟩ : ∃ FD d, D = FD ++ [d] ∧ ReD w0 FD F ∧ ((d.1 = x.k ∧ d.2.1 = x.t ∧ d.2.2.1 = x.v ∧ d.2.2.2.1 = x.c) ∧ RN w0 (slV d.2.2.2.2) x.A) := by
    rcases List.eq_nil_or_concat D with rfl | ⟨FD, d, rfl⟩
    · have := forall2_len hD; simp at this
    · rw [List.concat_eq_append] at hD ⊢
      have hl' : FD.length = F.length := by have := forall2_len hD; simpa using this
      obtain ⟨h1, h2⟩ := forall2_unappend hl' hD
      cases h2 with
      | cons a _ => exact ⟨FD, d, rfl, h1, ⟨a.1, a.2.1, a.2.2.1, a.2.2.2.1⟩, a.2.2.2.2⟩
  obtain ⟨⟨f1, f2, f3, f4⟩, hrx⟩ := hxd
  have hFl := forall2_len hFD
  obtain ⟨g, cap, rfl⟩ : ∃ g cap, v = .slice (some ⟨g, 0, none⟩) (FD.length + 1) cap := by
    rcases hv.2 with ⟨_, h0⟩ | ⟨g, cap, cur, e, _⟩
    · simp at h0
    · exact ⟨g, cap, by rw [e]; simp⟩
  have hv2 : w.ownsRow B 33 7 (.slice (some ⟨g, 0, none⟩) (FD.length + 1) cap) (FD.length + 1) (cellsO (FD ++ [d])) := by
    have h := hv
    unfold OwnO at h
    rw [show (FD ++ [d]).length = FD.length + 1 by simp] at h
    exact h
  have hat := own_opAt hv2 FD.length d (by simp)
  rw [Nat.zero_add] at hat
  obtain ⟨m, hm⟩ : ∃ m, FD.length = m := ⟨_, rfl⟩
  have c0 := hat.c0
  rw [f1] at c0
  rw [hm] at c0 HT ⊢
  obtain ⟨xk, hxk⟩ : ∃ z, x.k = z := ⟨_, rfl⟩
  rw [hxk] at c0 hx
  obtain ⟨k, t, ⟨xx, n, u⟩, cc, A⟩ := o
  have HT' : Hid (∀ W1, Below w.heap.size w W1 → _) := HT
  simp only [opC] at ba hx
  have c0' : (w.alloc (.cells #[.int .i64 k, .string t, .int .i64 xx, .int .i64 n, .string u, .int .i64 cc, .slice sp sl sc] 33)).cell? ⟨g, m * 7, none⟩ = some (.int .i64 xk) := (ba.cell (lt_of_cell c0)).trans c0
  have hgw : g < w.heap.size := lt_of_cell c0
  have hne : ¬ g = w.heap.size := by omega
  have HBA : Hid (∀ q, Below w.heap.size w ((w.alloc (.cells #[.int .i64 k, .string t, .int .i64 xx, .int .i64 n, .string u, .int .i64 cc, .slice sp sl sc] 33)).drewN q)) := fun q => below_drewN ba q
  have HO2 : Hid (∀ q, OpAt (((w.alloc (.cells #[.int .i64 k, .string t, .int .i64 xx, .int .i64 n, .string u, .int .i64 cc, .slice sp sl sc] 33)).drewN q).alloc (.cells #[.int .i64 k, .string t, .int .i64 xx, .int .i64 n, .string u, .int .i64 cc, .slice sp sl sc] 33)) (w.heap.size + 1) 0 (k, t, (xx, n, u), cc, sp, sl, sc)) := fun q => by
    have h := (HT'.out _ (HBA.out q)).2.1
    have e : ((w.alloc (.cells #[.int .i64 k, .string t, .int .i64 xx, .int .i64 n, .string u, .int .i64 cc, .slice sp sl sc] 33)).drewN q).heap.size = w.heap.size + 1 := by show (w.alloc _).heap.size = _; simp
    rw [e] at h
    exact h
  have hz : (((m : Int) + 1) == 0) = false := by rw [beq_eq_false_iff_ne]; omega
  have hd1 : ((m : Int) + 1) - 1 = (m : Int) := by omega
  have hmz : (0 : Int) ≤ (m : Int) := by omega
  have hml : m ≤ 8388608 := by simp at hl; omega
  have hmlt : (m : Int) < (m : Int) + 1 := by omega
  clear hv hD ho hlen ba hw hB HT hl hv2 hat hFD hFl f1 f2 f3 f4 hrx hm hxk c0
  by_cases hk : xk = k
  · obtain rfl : k = 2 := hx.resolve_left (fun h => h hk)
    subst hk
    go_enter Tryz.func45, Tryz.ntmps45
    go_wp2
    go_quiet (fail)
    go_wp2_with (at_builtin; refine wpList_append_ops rfl (.tmp 38) (.tmp 40) rfl B _ (FD ++ [d]) rfl (HT'.out _ (HBA.out _)).1 _ 1 _ rfl (HO2.out _) hl33 (HT'.out _ (HBA.out _)).2.2.1 ?_; intro v8 w8 own8 gr8 hat8; have HQ := Hid.mk' ((HT'.out _ (HBA.out _)).2.2.2 v8 w8 own8 gr8 hat8); clear own8 gr8 hat8 HT' HBA HO2)
    go_ret
    exact HQ.out
  · have hkb : (xk != k) = true := by simpa using hk
    clear hx hk
    go_enter Tryz.func45, Tryz.ntmps45
    go_wp2
    go_quiet (fail)
    go_wp2_with (at_builtin; refine wpList_append_ops rfl (.tmp 38) (.tmp 40) rfl B _ (FD ++ [d]) rfl (HT'.out _ (HBA.out _)).1 _ 1 _ rfl (HO2.out _) hl33 (HT'.out _ (HBA.out _)).2.2.1 ?_; intro v8 w8 own8 gr8 hat8; have HQ := Hid.mk' ((HT'.out _ (HBA.out _)).2.2.2 v8 w8 own8 gr8 hat8); clear own8 gr8 hat8 HT' HBA HO2)
    go_ret
    exact HQ.out
set_option maxHeartbeats 4000000 in
set_option maxRecDepth 100000 in
theorem push6_same {w0 : World} {B : Nat} (v : Value) (D : List OV) (P : List Op5) (o : Op5) (sp : Option Addr) (sl sc : Nat) (w : World) (hB : B ≤ w.heap.size) (hw : Below w0.heap.size w0 w) (hv : OwnO w B v D) (hD : ReD w0 D P) (ho : RN w0 (.slice sp sl sc) o.A) (hl : P.length ≤ 8388608) (F : List Op5) (x : Op5) (hP : P = F ++ [x]) (hx : x.k = o.k) (h2 : o.k ≠ 2) (hn1 : x.A.length ≤ 2097152) (hn2 : o.A.length ≤ 2097152) (hsz : x.t.size + o.t.size ≤ 16777216) (hcc : 0 ≤ x.c ∧ 0 ≤ o.c ∧ x.c + o.c ≤ 4398046511104) :
    Calls Tryz.prog 45 #[v, opV o (.slice sp sl sc)] w fun e w' => PushR w0 B w w' v e (if x.A = o.A then F ++ [jnO x o] else P ++ [o]) := by
  have hlen := forall2_len hD
  have ba : Below w.heap.size w (w.alloc (.cells (opC o (.slice sp sl sc)) 33)) := (Below.refl _ _).alloc (Nat.le_refl _) _
  have hl33 : D.length ≤ 33554432 := by omega
  have HT : Hid _ := fun W1 h1 => push6_tail hB hw hv hD ho W1 h1
  subst hP
  obtain ⟨FD, d, rfl, hFD, hxd⟩ : ∃ FD d, D = FD ++ [d] ∧ ReD w0 FD F ∧ ((d.1 = x.k ∧ d.2.1 = x.t ∧ d.2.2.1 = x.v ∧ d.2.2.2.1 = x.c) ∧ RN w0 (slV d.2.2.2.2) x.A) := by
    rcases List.eq_nil_or_concat D with rfl | ⟨FD, d, rfl⟩
    · have := forall2_len hD; simp at this
    · rw [List.concat_eq_append] at hD ⊢
      have hl' : FD.length = F.length := by have := forall2_len hD; simpa using this
      obtain ⟨h1, h2⟩ := forall2_unappend hl' hD
      cases h2 with
      | cons a _ => exact ⟨FD, d, rfl, h1, ⟨a.1, a.2.1, a.2.2.1, a.2.2.2.1⟩, a.2.2.2.2⟩
  obtain ⟨⟨f1, f2, f3, f4⟩, hrx⟩ := hxd
  have hFl := forall2_len hFD
  obtain ⟨g, cap, rfl⟩ : ∃ g cap, v = .slice (some ⟨g, 0, none⟩) (FD.length + 1) cap := by
    rcases hv.2 with ⟨_, h0⟩ | ⟨g, cap, cur, e, _⟩
    · simp at h0
    · exact ⟨g, cap, by rw [e]; simp⟩
  have hv2 : w.ownsRow B 33 7 (.slice (some ⟨g, 0, none⟩) (FD.length + 1) cap) (FD.length + 1) (cellsO (FD ++ [d])) := by
    have h := hv
    unfold OwnO at h
    rw [show (FD ++ [d]).length = FD.length + 1 by simp] at h
    exact h
  have hat := own_opAt hv2 FD.length d (by simp)
  rw [Nat.zero_add] at hat
  obtain ⟨m, hm⟩ : ∃ m, FD.length = m := ⟨_, rfl⟩
  have CS : Hid (∀ W, Below w.heap.size w W → Calls Tryz.prog 85 #[slV d.2.2.2.2, .slice sp sl sc] W fun r w' => r = .returned (.bool (decide (x.A = o.A))) ∧ Below W.heap.size W w') := fun W hW => refSame_any _ _ x.A o.A W ((hrx.below hw).below hW).row ((ho.below hw).below hW).row (by omega) (by omega)
  have HJ : Hid (x.A = o.A → ∀ W, Below w.heap.size w W → PushR w0 B w ((W.setCell ⟨g, m * 7 + 1, none⟩ (.string (x.t ++ o.t))).setCell ⟨g, m * 7 + 5, none⟩ (.int .i64 (x.c + o.c))).drew.drew (.slice (some ⟨g, 0, none⟩) (FD.length + 1) cap) (.returned (.slice (some ⟨g, 0, none⟩) (FD.length + 1) cap)) (F ++ [jnO x o]) ∧ W.frozen? ⟨g, m * 7 + 1, none⟩ = false ∧ W.frozen? ⟨g, m * 7 + 5, none⟩ = false) := fun hA W hW => by
    have hvW : OwnO W B (.slice (some ⟨g, 0, none⟩) (FD.length + 1) cap) (FD ++ [d]) := owns_below hv hW
    have hj := own_joinO hvW (x.t ++ o.t) (x.c + o.c)
    rw [hm] at hj
    obtain ⟨_, cur, hcur⟩ := owns_block hvW g rfl
    refine ⟨⟨.slice (some ⟨g, 0, none⟩) (FD.length + 1) cap, FD ++ [(d.1, x.t ++ o.t, d.2.2.1, x.c + o.c, d.2.2.2.2)], rfl, ?_, forall2_append hFD (.cons ⟨f1, rfl, f3, rfl, hrx⟩ .nil), ?_, Or.inl rfl⟩, frozen_of_heap hcur _, frozen_of_heap hcur _⟩
    · rw [hm]; exact hj
    · exact (((Row1.of_below hW).setCell rfl _ _).setCell rfl _ _).drew.drew
  have c0 := hat.c0
  have c1 := hat.c1
  have c5 := hat.c5
  have c6 := hat.c6
  rw [f1, hx] at c0
  rw [f2] at c1
  rw [f4] at c5
  rw [hm] at c0 c1 c5 c6 HT HJ ⊢
  obtain ⟨xt, hxt⟩ : ∃ z, x.t = z := ⟨_, rfl⟩
  obtain ⟨xc, hxc⟩ : ∃ z, x.c = z := ⟨_, rfl⟩
  rw [hxt] at c1 HJ hsz
  rw [hxc] at c5 HJ hcc
  obtain ⟨⟨xp, xl, xcap⟩, hxs⟩ : ∃ z, d.2.2.2.2 = z := ⟨_, rfl⟩
  rw [hxs] at c6 CS
  simp only [slV] at c6 CS
  obtain ⟨q, hq⟩ : ∃ q, decide (x.A = o.A) = q := ⟨_, rfl⟩
  rw [hq] at CS
  have HQ : Hid (decide (x.A = o.A) = q) := hq
  have hgw : g < w.heap.size := lt_of_cell c0
  obtain ⟨k, t, ⟨xx, n, u⟩, cc, A⟩ := o
  have HT' : Hid (∀ W1, Below w.heap.size w W1 → _) := HT
  simp only [opC] at ba
  simp only at hcc hsz h2 c0 HJ HQ ⊢
  obtain ⟨hc1, hc2, hc3⟩ := hcc
  have hz : (((m : Int) + 1) == 0) = false := by rw [beq_eq_false_iff_ne]; omega
  have hd1 : ((m : Int) + 1) - 1 = (m : Int) := by omega
  have hmz : (0 : Int) ≤ (m : Int) := by omega
  have hk2 : (k == 2) = false := by simpa using h2
  have hw1 : IntKind.i64.wrap (m : Int) = (m : Int) := IntWalk.i64_in _ (by simp at hl; omega)
  have hw2 : IntKind.i64.wrap ((m : Int) + 1 - 1) = (m : Int) := by rw [hd1]; exact hw1
  have hml : m ≤ 8388608 := by simp at hl; omega
  have hmlt : (m : Int) < (m : Int) + 1 := by omega
  obtain ⟨W1, hW1⟩ : ∃ W, W = w.alloc (.cells #[.int .i64 k, .string t, .int .i64 xx, .int .i64 n, .string u, .int .i64 cc, .slice sp sl sc] 33) := ⟨_, rfl⟩
  rw [← hW1] at ba
  have d0 : W1.cell? ⟨w.heap.size, 0, none⟩ = some (.int .i64 k) := by rw [hW1]; simp
  have d1 : W1.cell? ⟨w.heap.size, 1, none⟩ = some (.string t) := by rw [hW1]; simp
  have d2 : W1.cell? ⟨w.heap.size, 2, none⟩ = some (.int .i64 xx) := by rw [hW1]; simp
  have d3 : W1.cell? ⟨w.heap.size, 3, none⟩ = some (.int .i64 n) := by rw [hW1]; simp
  have d4 : W1.cell? ⟨w.heap.size, 4, none⟩ = some (.string u) := by rw [hW1]; simp
  have d5 : W1.cell? ⟨w.heap.size, 5, none⟩ = some (.int .i64 cc) := by rw [hW1]; simp
  have d6 : W1.cell? ⟨w.heap.size, 6, none⟩ = some (.slice sp sl sc) := by rw [hW1]; simp
  have e0 : W1.cell? ⟨g, m * 7, none⟩ = some (.int .i64 k) := (ba.cell (lt_of_cell c0)).trans c0
  have e1 : W1.cell? ⟨g, m * 7 + 1, none⟩ = some (.string xt) := (ba.cell (lt_of_cell c1)).trans c1
  have e5 : W1.cell? ⟨g, m * 7 + 5, none⟩ = some (.int .i64 xc) := (ba.cell (lt_of_cell c5)).trans c5
  have e6 : W1.cell? ⟨g, m * 7 + 6, none⟩ = some (.slice xp xl xcap) := (ba.cell (lt_of_cell c6)).trans c6
  have HU : Hid (∀ w', Below W1.drew.heap.size W1.drew w' → (w'.cell? ⟨g, m * 7, none⟩ = some (.int .i64 k) ∧ w'.cell? ⟨g, m * 7 + 1, none⟩ = some (.string xt) ∧ w'.cell? ⟨g, m * 7 + 5, none⟩ = some (.int .i64 xc) ∧ w'.cell? ⟨g, m * 7 + 6, none⟩ = some (.slice xp xl xcap)) ∧ (w'.cell? ⟨w.heap.size, 0, none⟩ = some (.int .i64 k) ∧ w'.cell? ⟨w.heap.size, 1, none⟩ = some (.string t) ∧ w'.cell? ⟨w.heap.size, 2, none⟩ = some (.int .i64 xx) ∧ w'.cell? ⟨w.heap.size, 3, none⟩ = some (.int .i64 n) ∧ w'.cell? ⟨w.heap.size, 4, none⟩ = some (.string u) ∧ w'.cell? ⟨w.heap.size, 5, none⟩ = some (.int .i64 cc) ∧ w'.cell? ⟨w.heap.size, 6, none⟩ = some (.slice sp sl sc))) := fun w' hb => ⟨⟨(hb.cell (lt_of_cell (w := W1.drew) e0)).trans e0, (hb.cell (lt_of_cell (w := W1.drew) e1)).trans e1, (hb.cell (lt_of_cell (w := W1.drew) e5)).trans e5, (hb.cell (lt_of_cell (w := W1.drew) e6)).trans e6⟩, (hb.cell (lt_of_cell (w := W1.drew) d0)).trans d0, (hb.cell (lt_of_cell (w := W1.drew) d1)).trans d1, (hb.cell (lt_of_cell (w := W1.drew) d2)).trans d2, (hb.cell (lt_of_cell (w := W1.drew) d3)).trans d3, (hb.cell (lt_of_cell (w := W1.drew) d4)).trans d4, (hb.cell (lt_of_cell (w := W1.drew) d5)).trans d5, (hb.cell (lt_of_cell (w := W1.drew) d6)).trans d6⟩
  have cs := CS.out W1.drew ba.drew
  have hne : ¬ g = w.heap.size := by omega
  have hne' : ¬ w.heap.size = g := by omega
  have hbs : w.heap.size ≤ W1.drew.heap.size := ba.size
  clear hv hD ho hlen hw hB HT hl hv2 hat hFD hFl f1 f2 f3 f4 hrx hm hxt hxc hxs hq CS c0 c1 c5 c6 h2 hx hn1 hn2
  go_enter Tryz.func45, Tryz.ntmps45
  go_upto_region 2 with fail
  rw [← hW1]
  clear hW1
  go_region_held3 (fun w' => ((w'.cell? ⟨g, m * 7, none⟩ = some (.int .i64 k) ∧ w'.cell? ⟨g, m * 7 + 1, none⟩ = some (.string xt) ∧ w'.cell? ⟨g, m * 7 + 5, none⟩ = some (.int .i64 xc) ∧ w'.cell? ⟨g, m * 7 + 6, none⟩ = some (.slice xp xl xcap)) ∧ (w'.cell? ⟨w.heap.size, 0, none⟩ = some (.int .i64 k) ∧ w'.cell? ⟨w.heap.size, 1, none⟩ = some (.string t) ∧ w'.cell? ⟨w.heap.size, 2, none⟩ = some (.int .i64 xx) ∧ w'.cell? ⟨w.heap.size, 3, none⟩ = some (.int .i64 n) ∧ w'.cell? ⟨w.heap.size, 4, none⟩ = some (.string u) ∧ w'.cell? ⟨w.heap.size, 5, none⟩ = some (.int .i64 cc) ∧ w'.cell? ⟨w.heap.size, 6, none⟩ = some (.slice sp sl sc))) ∧ Below w.heap.size w w')
    (exact ⟨by first | (with_reducible assumption) | (simp [*]; done), by first | (with_reducible assumption) | exact ba.drew⟩)
    (first | (go_at_call 85; refine cs.mono ?_; rintro r wD ⟨rfl, bD⟩; have jD : Below w.heap.size w wD := ba.drew.trans (bD.mono hbs); have mmD := HU.out _ bD))
  clear cs HU bD d0 d1 d2 d3 d4 d5 d6 e0 e1 e5 e6 ba
  obtain ⟨⟨e0, e1, e5, e6⟩, d0, d1, d2, d3, d4, d5, d6⟩ := mmD
  cases q with
  | true =>
    have hAA := of_decide_eq_true HQ.out
    obtain ⟨y1, y2, y3⟩ := HJ.out hAA wD jD
    have HY : Hid _ := y1
    have HAA := Hid.mk' hAA
    clear HJ HT' HQ hAA y1
    have e1d : wD.drew.cell? ⟨g, m * 7 + 1, none⟩ = some (.string xt) := e1
    go_wp2
    go_region
    all_goals go_wp2
    all_goals go_region
    all_goals go_wp2
    all_goals (go_ret; first | exact HY.out | (rw [if_pos HAA.out]; exact HY.out))
  | false =>
    have hAA := of_decide_eq_false HQ.out
    have HAA := Hid.mk' hAA
    have HBA : Hid (Below w.heap.size w wD) := jD
    clear HJ HQ hAA e0 e1 e5 e6 jD
    go_wp2_with (at_builtin; refine wpList_append_ops rfl (.tmp 38) (.tmp 40) rfl B _ (FD ++ [d]) rfl (HT'.out _ HBA.out).1 _ 1 _ rfl (HT'.out _ HBA.out).2.1 hl33 (HT'.out _ HBA.out).2.2.1 ?_; intro v8 w8 own8 gr8 hat8; have HQ := Hid.mk' ((HT'.out _ HBA.out).2.2.2 v8 w8 own8 gr8 hat8); clear own8 gr8 hat8 HT' HBA)
    go_ret
    have hq := HQ.out
    rw [List.append_assoc] at hq
    exact hq
end Go.Proofs.YtplnojapnaaakaaGreatDoor
