/- What the reference of layer 3 says of pairs and lists: its numbers are the code's. What vellumref03.Has answers: the first pair of a key. What vellumref03.whole, Over and Between answer. What vellumref03.Join answers of two patches: the one over the other. The document's answers of the attrs' calls as joins. What vellumref03.Between answers. What vellumref03.Compose, Apply, Diff, Invert and Transform answer. vellumhand.Attrs and Kept. vellumhand.OverAttrs: a list of the call's own is written over and grown: what that changes. vellumhand.Attrs: where the copy lies; what writing over a list leaves of others. build: Pieces: each piece's list lies in blocks of its own. What Each's function hands over, for whatever loop body. Cells one by one, as plain data: their error, the operation that inserts one. cells.Like, cells.Same; vellumref09.Like, vellumref09.Same. What cellsOf's function hands over, for whatever loop body: the cells of a text. What cellsOf's function hands over, for whatever loop body: the cell of an embed. What cellsOf's function hands over, for whatever loop body: an insert's cells; cells.Each. slices.Grow of nil, slices.Concat of two rows of pieces. measure: gathered: pieces of deltas put into one. One list behind another, in canonical form, by units: sums, brackets, what a cut takes. measure: count: how many cells a delta keeps, makes and takes away; Base, Result, Inserted, Deleted, Document. measure: Base, Result, Inserted, Deleted, Document, Concat, Shift. -/
import Derived.Test.YthfpmhnnjjikcaaGreatDoorMge
import Derived.Test.YthfpmhnnjjikcaaGreatDoorPc
import Derived.Test.YthfpmhnnjjikcaaGreatDoorAx
import Derived.Deep.DeepCutAuto
import Derived.Test.YthfpmhnnjjikcaaGreatDoorRk1
import Derived.Test.YthfpmhnnjjikcaaGreatDoorSpo
import Derived.ArgAppend
import Derived.RangeFuncNested
import Derived.RangeFuncBound
import Derived.RangeFuncCalls
import Derived.RangeFuncLeaves
import Derived.Shelf.Abstract
import Derived.Shelf.RegionOpen
import Derived.WalkKit
import Derived.OwnWalkIn
import Derived.TacticsInMore
import Derived.LoopNIn
import Derived.LoopIn
import Derived.Test.YthfpmhnnjjikcaaGreatDoorMgd
import Derived.Test.YthfpmhnnjjikcaaGreatDoorMgb
import Derived.Laws.Runes
import Derived.Lib.AppendZerosOnto
import Derived.Lib.SliceRun
import Derived.Laws.AppendOwnNone
import Derived.Test.YthfpmhnnjjikcaaGreatDoorMgc
import Derived.Stop.RegionWithIn

/- What the reference of layer 3 says of pairs and lists: its numbers are the code's. -/
namespace Go.Proofs.YthfpmhnnjjikcaaGreatDoor
open Go Go.RowKit Go.Lib
set_option linter.unusedVariables false

def Tiny (L : List A2) : Prop := ∀ q ∈ L, q.1.size ≤ 1048576 ∧ q.2.2.2.size ≤ 1048576
theorem tiny_small {L : List A2} (h : Tiny L) : Small L := fun q hq => by have := h q hq; unfold big; omega
theorem geq_run {P : Program} {t : TypeId} (x y : ByteArray) (b : Bool) (h : (!decide (kc x y < 0)) = b) (w : World) : (binOp .geq t (.string x) (.string y)).run P w = .ok (.bool b) w := by
  rw [← h, ← less_kc]
  simp [binOp, Op.stringOp]

set_option maxHeartbeats 1000000 in
theorem ref_pair {I : List Nat} {a : Nat → Addr} (q : A2) (w : World) (hS : Std I a w) (h1 : q.1.size ≤ 1048576) (h2 : q.2.2.2.size ≤ 1048576) :
    Calls Tryz.prog 122 #[atV q] w fun e w' => e = .returned (.int .i64 (pairE q)) ∧ Below w.heap.size w w' := by
  obtain ⟨k, x, n, t⟩ := q
  simp only at h1 h2
  have b0 := (Below.refl w.heap.size w).alloc (Nat.le_refl _) (.cells #[.string k, .int .i64 x, .int .i64 n, .string t] 163)
  by_cases hE : k.toList.isEmpty = true
  · have hz : k = ⟨#[]⟩ := emp_iff.1 hE
    subst hz
    rw [show pairE (⟨#[]⟩, x, n, t) = 6 by unfold pairE; rw [if_pos (Or.inl hE)]]
    clear hS hE
    go_enter Tryz.func122, Tryz.ntmps122
    go_wp2
    go_ret
    exact ⟨rfl, b0⟩
  · have hk : 0 < k.size := by
      rcases Nat.eq_zero_or_pos k.size with h | h
      · exact absurd (emp_iff.2 (ByteArray.ext (Array.eq_empty_of_size_eq_zero h))) hE
      · exact h
    have hkI : ¬ (k.size : Int) < 1 := by omega
    by_cases hL : 64 < k.size
    · rw [show pairE (k, x, n, t) = 6 by unfold pairE; rw [if_pos (Or.inr hL)]]
      have hLI : (64 : Int) < k.size := by omega
      clear hS hE
      go_enter Tryz.func122, Tryz.ntmps122
      go_wp2
      go_ret
      exact ⟨rfl, b0⟩
    · have hLI : ¬ (64 : Int) < k.size := by omega
      have hE2 : ¬ (k.toList.isEmpty = true ∨ 64 < k.size) := fun h => h.elim hE hL
      have cV := valid_any k _ (hS.below b0) (by omega)
      by_cases hB : brk k.data.toList = k.size
      · rw [show pairE (k, x, n, t) = chk x n t by unfold pairE; rw [if_neg hE2, if_neg (by simpa using hB)]]
        rw [decide_eq_true hB] at cV
        have c2 := fun W (hW : Below w.heap.size w W) => from_below hW (ref_chk x n t W (by omega))
        obtain ⟨E, hEE⟩ : ∃ E, chk x n t = E := ⟨_, rfl⟩
        rw [hEE] at c2 ⊢
        clear hS hE hB hEE hE2
        go_enter Tryz.func122, Tryz.ntmps122
        go_wp2_with (first
          | (go_at_call 136; refine cV.mono ?_; rintro e w1 ⟨rfl, b1⟩; have b := b0.trans (b1.mono b0.size); have d1 := b1.cell (p := ⟨w.heap.size, 1, none⟩) (by simp); have d2 := b1.cell (p := ⟨w.heap.size, 2, none⟩) (by simp); have d3 := b1.cell (p := ⟨w.heap.size, 3, none⟩) (by simp))
          | (go_at_call 121; refine (c2 _ b).mono ?_; rintro e w2 ⟨rfl, b2⟩))
        go_ret
        exact ⟨rfl, b2⟩
      · rw [show pairE (k, x, n, t) = 1 by unfold pairE; rw [if_neg hE2, if_pos hB]]
        rw [decide_eq_false hB] at cV
        clear hS hE hB hE2
        go_enter Tryz.func122, Tryz.ntmps122
        go_wp2_with (go_at_call 136; refine cV.mono ?_; rintro e w1 ⟨rfl, b1⟩)
        go_ret
        exact ⟨rfl, b0.trans (b1.mono b0.size)⟩

set_option maxHeartbeats 2000000 in
set_option maxRecDepth 100000 in
theorem ref_check {I : List Nat} {a : Nat → Addr} (v : Value) (L : List A2) (nulls : Bool) (w : World) (hS : Std I a w) (hv : RowA w v L)
    (hs : Tiny L) (hl : L.length ≤ 4611686018427387904) :
    Calls Tryz.prog 94 #[v, .bool nulls] w fun r w' => r = .returned (.int .i64 (listE nulls none L)) ∧ Below w.heap.size w w' := by
  obtain ⟨n, hn⟩ : ∃ n, L.length = n := ⟨_, rfl⟩
  obtain ⟨p, cap, rfl, hcap, hc⟩ := hv
  rw [hn] at hl hcap ⊢
  have HN : Hid (L.length = n) := hn
  have HC : Hid _ := hc
  have HS : Hid _ := hS
  have HZ : Hid _ := hs
  clear hc hS hs hn
  go_enter Tryz.func94, Tryz.ntmps94
  go_wp2
  go_loopw [10] (fun i wr => ∃ (k : Nat) (pv : Option ByteArray), k ≤ n ∧ i = .int .i64 k ∧ Below w.heap.size w wr ∧ Hid (listE nulls none L = listE nulls pv (L.drop k) ∧ (k = 0 → pv = none) ∧ ∀ j q, k = j + 1 → L[j]? = some q → pv = some q.1)) (fun i _ => n - (RowKit.intOf i).toNat)
  case atStart => exact ⟨0, none, Nat.zero_le _, rfl, Below.refl _ _, rfl, fun _ => rfl, fun j q h => by omega⟩
  case round =>
    obtain ⟨k, pv, hk, rfl, hbw, H⟩ := hrel
    by_cases hlt : k < n
    · have hltI : (k : Int) < n := by omega
      obtain ⟨q, hq⟩ : ∃ q, L[k]? = some q := ⟨_, List.getElem?_eq_getElem (by rw [HN.out]; exact hlt)⟩
      obtain ⟨b, off, rfl, hp⟩ := HC.out k q hq
      have hpw := hp.below hbw
      obtain ⟨c0, c1, c2, c3⟩ := hpw
      have hzs := HZ.out _ (List.mem_of_getElem? hq)
      have hd : L.drop k = q :: L.drop (k + 1) := by
        rw [List.drop_eq_getElem_cons (by rw [HN.out]; exact hlt)]
        rw [List.getElem?_eq_getElem (by rw [HN.out]; exact hlt)] at hq
        rw [Option.some.inj hq]
      obtain ⟨qk, qx, qn, qt⟩ := q
      simp only at c0 c1 c2 c3 hzs
      have hb1 : Below w.heap.size w (wr.alloc (.cells #[.string qk, .int .i64 qx, .int .i64 qn, .string qt] 163)) := hbw.alloc hbw.size _
      have cP := ref_pair (qk, qx, qn, qt) _ (HS.out.below hb1) hzs.1 hzs.2
      by_cases hE : pairE (qk, qx, qn, qt) = 0
      · rw [hE] at cP
        have hE1 : listE nulls none L = (if (!nulls && qx == 0) = true then 7 else if above pv qk = true then listE nulls (some qk) (L.drop (k + 1)) else 8) := by
          rw [H.out.1, hd, listE, if_pos hE]
        have HP : Hid ((k = 0 → pv = none) ∧ ∀ j q, k = j + 1 → L[j]? = some q → pv = some q.1) := H.out.2
        have HQ : Hid (L[k]? = some (qk, qx, qn, qt)) := hq
        have bp : ∀ W, Below (wr.alloc (.cells #[.string qk, .int .i64 qx, .int .i64 qn, .string qt] 163)).heap.size (wr.alloc (.cells #[.string qk, .int .i64 qx, .int .i64 qn, .string qt] 163)) W → PairAt W wr.heap.size 0 (qk, qx, qn, qt) := fun W hW => PairAt.below (w := wr.alloc (.cells #[.string qk, .int .i64 qx, .int .i64 qn, .string qt] 163)) ⟨by simp, by simp, by simp, by simp⟩ hW
        have HE1 : Hid _ := hE1
        clear hzs hq hd hE hE1 H hp
        by_cases hN : (!nulls && qx == 0) = true
        · have HR : Hid (listE nulls none L = 7) := by
            show _ = _
            rw [HE1.out, if_pos hN]
          simp only [Bool.and_eq_true, Bool.not_eq_true', beq_iff_eq] at hN
          obtain ⟨rfl, rfl⟩ := hN
          clear HE1 HP HQ
          go_wp2_with fail
          refine cP.mono ?_; rintro r w3 ⟨rfl, hb3⟩
          obtain ⟨e0, e1, e2, e3⟩ := bp _ hb3
          clear bp
          go_wp2
          go_ret
          rw [HR.out]
          exact ⟨rfl, hb1.trans (hb3.mono hb1.size)⟩
        · have HN2 : Hid (¬ (!nulls && qx == 0) = true) := hN
          have hcase : (qx == 0) = false ∨ ((qx == 0) = true ∧ nulls = true) := by
            cases hx : (qx == 0)
            · exact Or.inl rfl
            · cases hnl : nulls
              · rw [hx, hnl] at hN; exact absurd rfl hN
              · exact Or.inr ⟨rfl, rfl⟩
          clear hN
          rcases hcase with hx | ⟨hx, rfl⟩
          all_goals
            go_wp2_with fail
            refine cP.mono ?_; rintro r w3 ⟨rfl, hb3⟩
            obtain ⟨e0, e1, e2, e3⟩ := bp _ hb3
            have hb4 := hb1.trans (hb3.mono hb1.size)
            clear bp hb3 c0 c1 c2 c3
            go_wp2_with fail
            cases k with
            | zero =>
              have hg0 : decide ((0 : Int) < ((0 : Nat) : Int)) = false := by decide
              go_quiet (fail)
              go_wp2
              go_roundw
              case rel =>
                refine ⟨1, some qk, by omega, by go_num, by first | exact hb4 | exact below_drewN hb4 _, ?_, by omega, fun j q h1 h2 => ?_⟩
                · rw [HE1.out, if_neg HN2.out, if_pos (by rw [HP.out.1 rfl]; rfl)]
                · obtain rfl : j = 0 := by omega
                  rw [HQ.out] at h2
                  rw [← Option.some.inj h2]
              case measure => simp [RowKit.intOf]; omega
            | succ j =>
              obtain ⟨q', hq'⟩ : ∃ q', L[j]? = some q' := ⟨_, List.getElem?_eq_getElem (by rw [HN.out]; omega)⟩
              obtain ⟨b', off', hbo, hp'⟩ := HC.out j q' hq'
              simp only [Option.some.injEq, Addr.mk.injEq, and_true] at hbo
              obtain ⟨rfl, rfl⟩ := hbo
              have d0 := (hp'.below hb4).c0
              have hpv := HP.out.2 j q' rfl hq'
              have hg0 : (0 : Int) < ((j + 1 : Nat) : Int) := by omega
              have hg1 : (((j + 1 : Nat) : Int) - 1) = (j : Int) := by omega
              have hg2 : (j : Int) < n := by omega
              have hg3 : (0 : Int) ≤ j := by omega
              have hwr : IntKind.i64.wrap (j : Int) = (j : Int) := IntWalk.i64_in _ (by omega)
              obtain ⟨k', p'⟩ := q'
              simp only at d0 hpv
              by_cases hlt2 : kc k' qk < 0
              · have hless := geq_run (P := Tryz.prog) (t := 9) k' qk false (by simpa using hlt2)
                have HR : Hid (listE _ none L = listE _ (some qk) (L.drop (j + 1 + 1))) := HE1.out.trans (by rw [if_neg HN2.out, if_pos (by rw [hpv]; simpa [above] using hlt2)])
                have HP2 : Hid (∀ i q, j + 1 + 1 = i + 1 → L[i]? = some q → some qk = some q.1) := fun i q h1 h2 => by
                  obtain rfl : i = j + 1 := by omega
                  rw [HQ.out] at h2
                  rw [← Option.some.inj h2]
                clear hlt2 hpv hp' hq' HP HE1
                go_quiet (fail)
                go_wp2
                go_roundw
                case rel => exact ⟨j + 1 + 1, some qk, by omega, by go_num, by first | exact hb4 | exact below_drewN hb4 _, HR.out, fun h => by omega, HP2.out⟩
                case measure => simp [RowKit.intOf]; omega
              · have hless := geq_run (P := Tryz.prog) (t := 9) k' qk true (by simpa using hlt2)
                have HR : Hid (listE _ none L = 8) := HE1.out.trans (by rw [if_neg HN2.out, if_neg (by rw [hpv]; simpa [above] using hlt2)])
                clear hlt2 hpv hp' hq' HP HE1
                go_quiet (fail)
                go_wp2
                go_ret
                rw [HR.out]
                exact ⟨rfl, by first | exact hb4 | exact below_drewN hb4 _⟩
      · obtain ⟨e, he⟩ : ∃ e, pairE (qk, qx, qn, qt) = e + 1 := ⟨pairE (qk, qx, qn, qt) - 1, by omega⟩
        have HR : Hid (listE nulls none L = e + 1) := by
          show _ = _
          rw [H.out.1, hd, listE, if_neg hE, he]
        have hen : (((e + 1 : Nat) : Int) != 0) = true := by simp; omega
        rw [he] at cP
        clear hzs hq hd hE he H hp
        go_wp2_with fail
        refine cP.mono ?_; rintro r w3 ⟨rfl, hb3⟩
        go_wp2
        go_ret
        rw [HR.out]
        exact ⟨rfl, hb1.trans (hb3.mono hb1.size)⟩
    · have hltI : ¬ (k : Int) < n := by omega
      have HR : Hid (listE nulls none L = 0) := by
        show _ = _
        rw [H.out.1, List.drop_of_length_le (by rw [HN.out]; omega), listE]
      clear H
      go_wp2
      go_ret
      rw [HR.out]
      exact ⟨rfl, hbw⟩

end Go.Proofs.YthfpmhnnjjikcaaGreatDoor

/- What vellumref03.Has answers: the first pair of a key. -/
namespace Go.Proofs.YthfpmhnnjjikcaaGreatDoor
open Go Go.RowKit Go.Lib
set_option linter.unusedVariables false
end Go.Proofs.YthfpmhnnjjikcaaGreatDoor

/- What vellumref03.whole, Over and Between answer. -/
namespace Go.Proofs.YthfpmhnnjjikcaaGreatDoor
open Go Go.RowKit Go.Lib
set_option linter.unusedVariables false

def wholeL (L : List A2) : List A2 := L.filter fun q => !(q.2.1 == 0)
def overL (A : List A2) (first : Bool) (B : List A2) : List A2 := B.filter fun q => !first || !(look q.1 A).isSome
def betL (A B : List A2) (J : List A2) : List A2 := J.filterMap fun x => if (look x.1 A).getD z0 = (look x.1 B).getD z0 then none else some (x.1, (look x.1 B).getD z0)
theorem filter_step {p : A2 → Bool} {L : List A2} {k : Nat} {q : A2} (hq : L[k]? = some q) : (L.take (k + 1)).filter p = (L.take k).filter p ++ (if p q then [q] else []) := by
  rw [List.take_add_one, hq, List.filter_append]
  simp only [Option.toList, List.filter_cons, List.filter_nil]
theorem filterMap_step {p : A2 → Option A2} {L : List A2} {k : Nat} {q : A2} (hq : L[k]? = some q) : (L.take (k + 1)).filterMap p = (L.take k).filterMap p ++ (p q).toList := by
  rw [List.take_add_one, hq, List.filterMap_append]
  congr 1

end Go.Proofs.YthfpmhnnjjikcaaGreatDoor

/- What vellumref03.Join answers of two patches: the one over the other. -/
namespace Go.Proofs.YthfpmhnnjjikcaaGreatDoor
open Go Go.RowKit Go.Lib
set_option linter.unusedVariables false

theorem jt_b {x y : A2} {A B : List A2} (h : kc y.1 x.1 < 0) : jn (chC true) (x :: A) (y :: B) = y :: jn (chC true) (x :: A) B := by
  have hs := kc_swap x.1 y.1
  show joinL _ (x :: A) (y :: B) = _
  rw [joinL, if_neg (by omega), if_neg (by omega)]; rfl
theorem jt_a {x y : A2} {A B : List A2} (h : kc x.1 y.1 < 0) : jn (chC true) (x :: A) (y :: B) = x :: jn (chC true) A (y :: B) := by
  show joinL _ (x :: A) (y :: B) = _
  rw [joinL, if_pos h]; rfl
theorem jt_a0 {x : A2} {A : List A2} : jn (chC true) (x :: A) [] = x :: jn (chC true) A [] := by
  show joinL _ (x :: A) [] = _
  rw [joinL]; rfl
theorem jt_eq {x y : A2} {A B : List A2} (e : y.1 = x.1) (hA : Up (x :: A)) : jn (chC true) (x :: A) (y :: B) = jn (chC true) A (y :: B) := by
  have h0 : kc x.1 y.1 = 0 := by rw [e]; exact kc_self _
  show joinL _ (x :: A) (y :: B) = _
  rw [joinL, if_neg (by omega), if_pos h0]
  cases A with
  | nil =>
    show _ = joinL _ [] (y :: B)
    rw [joinL, e]; rfl
  | cons z A =>
    have hz : kc x.1 z.1 < 0 := List.rel_of_pairwise_cons hA (List.mem_cons_self ..)
    have hzy : kc y.1 z.1 < 0 := by rw [e]; exact hz
    have hs := kc_swap z.1 y.1
    show _ = joinL _ (z :: A) (y :: B)
    rw [joinL, if_neg (by omega), if_neg (by omega), e]; rfl
theorem drop_cons {L : List A2} {k n : Nat} {q : A2} (hn : L.length = n) (hk : k < n) (hq : L[k]? = some q) : L.drop k = q :: L.drop (k + 1) := by
  rw [List.drop_eq_getElem_cons (by omega)]
  rw [List.getElem?_eq_getElem (by omega)] at hq
  rw [Option.some.inj hq]

end Go.Proofs.YthfpmhnnjjikcaaGreatDoor

/- The document's answers of the attrs' calls as joins. -/
namespace Go.Proofs.YthfpmhnnjjikcaaGreatDoor
open Go Go.RowKit Go.Lib
set_option linter.unusedVariables false

def fm (g : A2 → Option P3) (L : List A2) : List A2 := L.filterMap fun x => (g x).map fun v => (x.1, v)
theorem fm_mem {g : A2 → Option P3} {L : List A2} {q : A2} (h : q ∈ fm g L) : ∃ x ∈ L, x.1 = q.1 ∧ g x = some q.2 := by
  obtain ⟨x, hx, e⟩ := List.mem_filterMap.1 h
  obtain ⟨v, hv, rfl⟩ := Option.map_eq_some_iff.1 e
  exact ⟨x, hx, rfl, hv⟩
theorem up_fm {g : A2 → Option P3} {L : List A2} (h : Up L) : Up (fm g L) := by
  unfold fm
  refine List.Pairwise.filterMap _ (R := fun x y : A2 => kc x.1 y.1 < 0) (S := fun x y : A2 => kc x.1 y.1 < 0) (fun a a' hr b hb b' hb' => ?_) h
  obtain ⟨v, hv, rfl⟩ := Option.map_eq_some_iff.1 hb
  obtain ⟨v', hv', rfl⟩ := Option.map_eq_some_iff.1 hb'
  exact hr
theorem look_fm {g : A2 → Option P3} (k : ByteArray) : ∀ {L : List A2}, Up L → look k (fm g L) = (look k L).bind fun v => g (k, v)
  | [], _ => rfl
  | (j, u) :: L, h => by
    have ih := look_fm (g := g) k (L := L) (List.Pairwise.of_cons h)
    have hc : fm g ((j, u) :: L) = ((g (j, u)).map fun v => (j, v)).toList ++ fm g L := by
      unfold fm
      rw [List.filterMap_cons]
      cases g (j, u) <;> rfl
    rw [hc, look]
    by_cases e : j = k
    · subst e
      rw [if_pos rfl]
      have h0 : look j L = none := look_above fun q hq => List.rel_of_pairwise_cons h hq
      rw [h0] at ih
      cases e2 : g (j, u) with
      | none => simp only [Option.map_none, Option.toList_none, List.nil_append, ih]; exact e2.symm
      | some v => show look j ((j, v) :: fm g L) = _; rw [look, if_pos rfl]; exact e2.symm
    · rw [if_neg (show ¬ (j, u).1 = k from e), ← ih]
      cases e2 : g (j, u) with
      | none => rfl
      | some v => show look k ((j, v) :: fm g L) = _; rw [look, if_neg (show ¬ (j, v).1 = k from e)]
theorem filter_fm (p : A2 → Bool) (L : List A2) : L.filter p = fm (fun q => if p q then some q.2 else none) L := by
  unfold fm
  induction L with
  | nil => rfl
  | cons q L ih =>
    rw [List.filter_cons, List.filterMap_cons, ih]
    by_cases h : p q = true <;> simp [h]
theorem whole_eq {a b : List A2} (ha : Up a) (hb : Up b) : wholeL (jn (chC true) a b) = jn (chC false) a b := by
  unfold wholeL
  rw [filter_fm]
  refine up_ext (up_fm (up_join _ ha hb)) (up_join _ ha hb) fun k => ?_
  rw [look_fm k (up_join _ ha hb), look_join _ ha hb, look_join _ ha hb]
  cases look k a <;> cases look k b <;> simp [at2, fOf, chC]
theorem over_eq {a b : List A2} (first : Bool) (ha : Up a) (hb : Up b) : overL a first b = jn (chT first) a b := by
  unfold overL
  rw [filter_fm]
  refine up_ext (up_fm hb) (up_join _ ha hb) fun k => ?_
  rw [look_fm k hb, look_join _ ha hb]
  cases first <;> cases e : look k a <;> cases look k b <;> simp [at2, fOf, chT, e]
theorem bet_eq {a b : List A2} (ha : Up a) (hb : Up b) : betL a b (jn (chC true) a b) = jn chD a b := by
  have e : ∀ J, betL a b J = fm (fun x => if (look x.1 a).getD z0 = (look x.1 b).getD z0 then none else some ((look x.1 b).getD z0)) J := fun J => by
    unfold betL fm
    congr 1
    funext x
    by_cases h : (look x.1 a).getD z0 = (look x.1 b).getD z0 <;> simp [h]
  rw [e]
  refine up_ext (up_fm (up_join _ ha hb)) (up_join _ ha hb) fun k => ?_
  rw [look_fm k (up_join _ ha hb), look_join _ ha hb, look_join _ ha hb]
  have hs : ∀ p q : P3, samP p q = decide (p = q) := fun p q => by
    by_cases h : p = q
    · rw [h, samP_self]; simp
    · rw [samP_ne h]; simp [h]
  cases ea : look k a <;> cases eb : look k b <;> simp [at2, fOf, chC, chD, hs, ea, eb]
theorem und_eq {s p : List A2} (hs : Up s) (hp : Up p) (ns : NoNull s) (pn : ∀ q ∈ p, q.2.1 = 0 → q.2 = z0) : jn chD (jn (chC false) s p) s = jn chI p s := by
  refine up_ext (up_join _ (up_join _ hs hp) hs) (up_join _ hp hs) fun k => ?_
  rw [look_join _ (up_join _ hs hp) hs, look_join _ hs hp, look_join _ hp hs]
  cases es : look k s with
  | none =>
    cases ep : look k p with
    | none => simp [at2]
    | some v =>
      by_cases h1 : v.1 = 0
      · have hv : v = z0 := pn (k, v) (look_mem ep) h1
        subst hv
        simp [at2, fOf, chC, chI, samP_self]; simp [z0]
      · simp [at2, fOf, chC, chI, chD, h1]
  | some u =>
    have hu := nn_look ns es
    cases ep : look k p with
    | none => simp [at2, fOf, chC, chI, chD, hu, samP_self]
    | some v =>
      by_cases h1 : v.1 = 0
      · have hv : v = z0 := pn (k, v) (look_mem ep) h1
        subst hv
        simp [at2, fOf, chC, chI, chD, h1]
      · simp [at2, fOf, chC, chI, chD, h1]
end Go.Proofs.YthfpmhnnjjikcaaGreatDoor

/- What vellumref03.Between answers. -/
namespace Go.Proofs.YthfpmhnnjjikcaaGreatDoor
open Go Go.RowKit Go.Lib
set_option linter.unusedVariables false

/-- Between two marks the memory stands. -/
structure Mid (c : Nat) (u w : World) : Prop where
  size : u.heap.size ≤ w.heap.size
  cell : ∀ g i, c < g → g < u.heap.size → w.cell? ⟨g, i, none⟩ = u.cell? ⟨g, i, none⟩
theorem Mid.refl (c : Nat) (u : World) : Mid c u u := ⟨Nat.le_refl _, fun _ _ _ _ => rfl⟩
theorem Mid.below {c : Nat} {u w w' : World} (h : Mid c u w) (b : Below w.heap.size w w') : Mid c u w' :=
  ⟨Nat.le_trans h.size b.size, fun g i h1 h2 => (b.cell (Nat.lt_of_lt_of_le h2 h.size)).trans (h.cell g i h1 h2)⟩
theorem Mid.alloc {c : Nat} {u w : World} (h : Mid c u w) (o : Obj) : Mid c u (w.alloc o) := h.below ((Below.refl _ _).alloc (Nat.le_refl _) o)
theorem Mid.grown {c : Nat} {u w w' : World} {row : Option Nat} (h : Mid c u w) (g : w.grownBy w' row) (hr : ∀ r, row = some r → r = c ∨ u.heap.size ≤ r) : Mid c u w' :=
  ⟨Nat.le_trans h.size g.size, fun k i h1 h2 => (World.cell?_of_block (a := ⟨k, i, none⟩) (g.block k (Nat.lt_of_lt_of_le h2 h.size) (fun e => by have := hr k e.symm; omega))).trans (h.cell k i h1 h2)⟩
theorem PairAt.mid {c : Nat} {u w : World} {b o : Nat} {q : A2} (h : PairAt u b o q) (m : Mid c u w) (hb : c < b) : PairAt w b o q :=
  ⟨(m.cell _ _ hb h.lt).trans h.c0, (m.cell _ _ hb h.lt).trans h.c1, (m.cell _ _ hb h.lt).trans h.c2, (m.cell _ _ hb h.lt).trans h.c3⟩

end Go.Proofs.YthfpmhnnjjikcaaGreatDoor

/- What vellumref03.Compose, Apply, Diff, Invert and Transform answer. -/
namespace Go.Proofs.YthfpmhnnjjikcaaGreatDoor
open Go Go.RowKit Go.Lib
set_option linter.unusedVariables false

/-- A nil slice is empty and has no room. -/
abbrev NilZ (v : Value) : Prop := ∀ m c, v = .slice none m c → m = 0 ∧ c = 0
theorem wholeL_len (L : List A2) : (wholeL L).length ≤ L.length := List.length_filter_le _ _

end Go.Proofs.YthfpmhnnjjikcaaGreatDoor

/- vellumhand.Attrs and Kept. -/
namespace Go.Proofs.YthfpmhnnjjikcaaGreatDoor
open Go Go.RowKit Go.Lib
set_option linter.unusedVariables false

abbrev s2 : A2 := (⟨#[114, 111, 111, 109]⟩, 0, 0, ⟨#[]⟩)
/-- A copy with two more behind its end. -/
def HandA (w : World) (v : Value) (A : List A2) : Prop :=
  NilZ v ∧ RowA w v A ∧ (A ≠ [] → ∃ p c, v = .slice p A.length c ∧ A.length + 2 ≤ c ∧ RowA w (.slice p (A.length + 2) c) (A ++ [s1, s2]))
theorem HandA.below {w w' : World} {v : Value} {A : List A2} (h : HandA w v A) (b : Below w.heap.size w w') : HandA w' v A :=
  ⟨h.1, h.2.1.below b, fun hA => by obtain ⟨p, c, h1, h2, h3⟩ := h.2.2 hA; exact ⟨p, c, h1, h2, h3.below b⟩⟩
set_option maxHeartbeats 2000000 in
set_option maxRecDepth 100000 in
theorem hattrs_any (v : Value) (A : List A2) (w : World) (hA : RowA w v A) (hl : A.length ≤ 1048576) :
    Calls Tryz.prog 52 #[v] w fun r w' => ∃ v', r = .returned v' ∧ HandA w' v' A ∧ Below w.heap.size w w' := by
  obtain ⟨n, hn⟩ : ∃ n, A.length = n := ⟨_, rfl⟩
  obtain ⟨p, cap, rfl, hcap, hc⟩ := hA
  rw [hn] at hl hcap ⊢
  have HN : Hid (A.length = n) := hn
  have HC : Hid _ := hc
  clear hc hn
  by_cases h0 : n = 0
  · subst h0
    obtain rfl : A = [] := List.eq_nil_of_length_eq_zero HN.out
    have hz : HandA w (.slice none 0 0) [] := ⟨fun m c h => by simp only [Value.slice.injEq] at h; exact ⟨h.2.1.symm, h.2.2.symm⟩, RowA.nil _ _ _, fun h => absurd rfl h⟩
    go_enter Tryz.func52, Tryz.ntmps52
    go_wp2
    go_ret
    exact ⟨.slice none 0 0, rfl, hz, Below.refl _ _⟩
  · have h0I : ((n : Int) == 0) = false := by simp; omega
    obtain ⟨q, hq⟩ : ∃ q, A[0]? = some q := ⟨_, List.getElem?_eq_getElem (by rw [HN.out]; omega)⟩
    obtain ⟨b, off, rfl, _⟩ := HC.out 0 q hq
    have hne : A ≠ [] := fun e => by have := HN.out; rw [e] at this; exact h0 this.symm
    have HE : Hid (A ≠ []) := hne
    clear hq hne h0
    have oE := own_empty' w w.heap.size (Nat.le_refl _)
    have bE := (Below.refl w.heap.size w).alloc (Nat.le_refl _) (.cells #[] 163)
    have hM : Hid (∀ (j : Nat) (x : A2), A[j]? = some x → PairAt (w.alloc (.cells #[] 163)) b (off + j * 4) x) := fun j x hx => by
      obtain ⟨b', off', he, h⟩ := HC.out j x hx
      cases he
      exact h.below bE
    have hL0 : ([] : List A2).length + n ≤ 2097152 := by simp; omega
    go_enter Tryz.func52, Tryz.ntmps52
    go_wp2_with (first
      | (at_builtin; refine wpList_append_atx rfl (.tmp 7) (.tmp 8) rfl w.heap.size (.slice (some ⟨w.heap.size, 0, none⟩) 0 0) [] rfl oE b off n cap A rfl HN.out hM.out hL0 bE.size ?_; intro v9 w9 own9 gr9 hat9; have b10 := (bE.grown gr9 bE.size (fun j hj => by simp only [Value.ownBlock, Option.some.injEq] at hj; omega)).alloc (by have h0 := gr9.size; have h1 := bE.size; omega) (.cells #[.string ⟨#[115, 112, 97, 114, 101]⟩, .int .i64 0, .int .i64 0, .string ⟨#[]⟩, .string ⟨#[114, 111, 111, 109]⟩, .int .i64 0, .int .i64 0, .string ⟨#[]⟩] 163); have O9 : Hid (OwnA w9 w.heap.size v9 A) := own9; have O10 : Hid (OwnA (w9.alloc (.cells #[.string ⟨#[115, 112, 97, 114, 101]⟩, .int .i64 0, .int .i64 0, .string ⟨#[]⟩, .string ⟨#[114, 111, 111, 109]⟩, .int .i64 0, .int .i64 0, .string ⟨#[]⟩] 163)) w.heap.size v9 A) := owns_below O9.out ((Below.refl _ _).alloc (Nat.le_refl _) _); have hL1 : Hid (A.length + 2 ≤ 2097152) := (by show _ ≤ _; rw [HN.out]; omega); have hge : Hid (∀ j, v9.ownBlock = some j → w.heap.size ≤ j) := (fun j hj => (owns_block O10.out j hj).1); clear own9 gr9 hat9 oE bE hM O9)
      | (at_builtin; refine wpList_append_atx rfl (.tmp 9) (.tmp 12) rfl w.heap.size v9 A rfl O10.out w9.heap.size 0 2 2 [s1, s2] rfl rfl (two_at ⟨by simp, by simp, by simp, by simp⟩ ⟨by simp, by simp, by simp, by simp⟩) hL1.out b10.size ?_; intro v11 w11 own11 gr11 hat11; have b11 := b10.grown gr11 b10.size (fun j hj => hge.out j hj); obtain ⟨p11, c11, e11, hc11, hr11⟩ := own_rowA own11; rw [show (A ++ [s1, s2]).length = n + 2 by simp [HN.out]] at e11 hc11; subst e11; have HR : Hid _ := hr11; have hcI : n ≤ c11 := (by omega); clear own11 gr11 hat11 O10 b10 hge hr11))
    go_ret
    refine ⟨_, rfl, ⟨?_, ?_, ?_⟩, b11⟩
    · intro m c h
      have hp : p11 = none := by simpa using (Value.slice.inj h).1
      obtain ⟨b', off', he, _⟩ := HR.out n s1 (by rw [List.getElem?_append_right (by rw [HN.out]; omega), HN.out]; simp)
      rw [hp] at he; cases he
    · refine ⟨p11, c11, by rw [HN.out]; rfl, by rw [HN.out]; exact hcI, fun j x hx => HR.out j x ?_⟩
      rw [List.getElem?_append_left (List.getElem?_eq_some_iff.1 hx).1]; exact hx
    · intro _
      exact ⟨p11, c11, by rw [HN.out]; rfl, by rw [HN.out]; exact hc11, ⟨p11, c11, by simp [HN.out], by simp [HN.out]; omega, HR.out⟩⟩
end Go.Proofs.YthfpmhnnjjikcaaGreatDoor

/- vellumhand.OverAttrs: a list of the call's own is written over and grown: what that changes. -/
namespace Go.Proofs.YthfpmhnnjjikcaaGreatDoor
open Go Go.RowKit Go.Lib
set_option linter.unusedVariables false

theorem cell_atv {w : World} {g : Nat} {cur : Array Value} {e : TypeId} (h : w.heap[g]? = some (.cells cur e (0, 0))) (j : Nat) (hj : j < cur.size) : ∃ u, w.cell? ⟨g, j, none⟩ = some u :=
  ⟨cur[j], by simp [World.cell?, h, hj]⟩
theorem out_set4v {lo hi : Nat} {w W : World} (h : Out lo hi w W) {g : Nat} (h1 : lo ≤ g) (h2 : g < hi) (a b c d : Nat) (u0 u1 u2 u3 : Value) :
    Out lo hi w ((((W.setCell ⟨g, a, none⟩ u0).setCell ⟨g, b, none⟩ u1).setCell ⟨g, c, none⟩ u2).setCell ⟨g, d, none⟩ u3) :=
  (((h.setCell g a u0 h1 h2).setCell g b u1 h1 h2).setCell g c u2 h1 h2).setCell g d u3 h1 h2
theorem out_setCellsv {lo hi : Nat} {w : World} {g : Nat} (h1 : lo ≤ g) (h2 : g < hi) : ∀ (vs : List Value) (o : Nat) (W : World), Out lo hi w W → Out lo hi w (W.setCells g o vs)
  | [], _, _, h => h
  | v :: r, o, W, h => by
    rw [World.setCells]
    exact out_setCellsv h1 h2 r (o + 1) _ (h.setCell g o v h1 h2)
/-- A store into a block that came later. -/
theorem Out.setFar {lo hi : Nat} {w w' : World} (h : Out lo hi w w') (g j : Nat) (u : Value) (h1 : w.heap.size ≤ g) : Out lo hi w (w'.setCell ⟨g, j, none⟩ u) :=
  ⟨h.os, h.tape, h.output, by simpa using h.size, fun k hk ho => (Below.heap_setCell _ _ _ _ (by show k ≠ g; omega)).trans (h.block k hk ho), fun k cur e fz hc hk => by
    obtain ⟨c, h3, h4⟩ := h.shape k cur e fz hc hk
    have hkg : k ≠ g := by have := (Array.getElem?_eq_some_iff.1 hc).1; omega
    exact ⟨c, (Below.heap_setCell _ _ _ _ hkg).trans h3, h4⟩⟩
theorem out_setCellsFar {lo hi : Nat} {w : World} {g : Nat} (h1 : w.heap.size ≤ g) : ∀ (vs : List Value) (o : Nat) (W : World), Out lo hi w W → Out lo hi w (W.setCells g o vs)
  | [], _, _, h => h
  | v :: r, o, W, h => by
    rw [World.setCells]
    exact out_setCellsFar h1 r (o + 1) _ (h.setFar g o v h1)
theorem out_grownv {lo hi : Nat} {u w w' : World} (h : Out lo hi u w) (g : w.grownBy w' none) : Out lo hi u w' :=
  h.trans ⟨g.os, g.tape, g.output, g.size, fun k hk _ => g.block k hk (by simp), fun k cur e fz hc _ => ⟨cur, (g.block k (Array.getElem?_eq_some_iff.1 hc).1 (by simp)).trans hc, rfl⟩⟩

/-- A list that may be written, in blocks between two marks or in new ones: its shape alone. -/
def LiR (w : World) (L H B : Nat) (v : Value) (n : Nat) : Prop :=
  (v = .slice none 0 0 ∧ n = 0) ∨ ∃ (g cap : Nat) (cur : Array Value), v = .slice (some ⟨g, 0, none⟩) n cap ∧ ((L ≤ g ∧ g < H) ∨ B ≤ g) ∧ w.heap[g]? = some (.cells cur 163 (0, 0)) ∧ n ≤ cap ∧ cur.size = cap * 4
theorem LiR.val {w : World} {L H B n : Nat} {v : Value} (h : LiR w L H B v n) : ∃ p c, v = .slice p n c := by
  rcases h with ⟨h, h0⟩ | ⟨g, cap, cur, h, _⟩
  · exact ⟨none, 0, by rw [h, h0]⟩
  · exact ⟨_, _, h⟩
theorem LiR.below {w w' : World} {L H B n : Nat} {v : Value} (h : LiR w L H B v n) (b : Below w.heap.size w w') : LiR w' L H B v n := by
  rcases h with h | ⟨g, cap, cur, h1, h2, h3, h4⟩
  · exact Or.inl h
  · exact Or.inr ⟨g, cap, cur, h1, h2, (b.block g (Array.getElem?_eq_some_iff.1 h3).1).trans h3, h4⟩
/-- append(such a list, one pair). -/
theorem wpList_append_res {w u : World} {ops : Array Oper} {rest : List Oper} {o : Oper} {a : Act} {Q : Exit → Act → World → Prop} (hgd : o.guard = none) (s x : Operand)
    (ho : o.op = .call { callee := .builtin .append, args := #[s, x], argTypes := #[31, 31] })
    (L H : Nat) (v : Value) (n : Nat) (hs : a.eval s = v) (hv : LiR w L H u.heap.size v n) (hu : Out L H u w)
    (b c : Nat) (q : A2) (hx : a.eval x = .slice (some ⟨b, 0, none⟩) 1 c) (hM : PairAt w b 0 q) (h63 : n ≤ 2097152)
    (h : ∀ v' w', LiR w' L H u.heap.size v' (n + 1) → Out L H u w' → wpList Tryz.prog ops Q rest (a.put o.dst v') w') : wpList Tryz.prog ops Q (o :: rest) a w := by
  obtain ⟨i, z, hi, hz, hz1, hz2, hz3⟩ := infoAt
  have hnew : ∀ (j : Nat) (u : Value), (cellsA [q])[j]? = some u → w.cell? ((⟨b, 0, none⟩ : Addr).add j) = some u := fun j u hu => by
    obtain ⟨k, q', hq, hh⟩ := cellsA_inv [q] j u hu
    have hk : k = 0 := by rcases k with _ | k; rfl; simp at hq
    subst hk
    obtain rfl : q = q' := by simpa using hq
    obtain ⟨h0, h1, h2, h3⟩ := hM
    rw [Addr.add_lit]
    rcases hh with ⟨rfl, rfl⟩ | ⟨rfl, rfl⟩ | ⟨rfl, rfl⟩ | ⟨rfl, rfl⟩
    · exact h0
    · exact h1
    · exact h2
    · exact h3
  have fin : ∀ (v' : Value) (w' : World) (xs : List Value), w'.ownsRow w.heap.size 163 4 v' (n + 1) xs → Out L H u w' → wpList Tryz.prog ops Q rest (a.put o.dst v') w' := fun v' w' xs hw ho' => by
    refine h _ _ ?_ ho'
    rcases hw.2 with ⟨_, h0⟩ | ⟨g, cap, cur, h1, h2, h3, h4, h5, h6, _⟩
    · omega
    · exact Or.inr ⟨g, cap, cur, h1, Or.inr (Nat.le_trans hu.size h2), h3, h4, h6⟩
  rcases hv with ⟨rfl, rfl⟩ | ⟨g, cap, cur, rfl, h2, h4, h5, h6⟩
  · exact wpList_append_grows w hgd s x _ ho 163 i z 4 48 Tryz.underlying31 hi hz hz1 hz2 hz3 (by decide) none 0 0 [] hs (fun _ => ⟨rfl, rfl⟩) rfl (fun b hb => (by cases hb)) ⟨b, 0, none⟩ 1 c (cellsA [q]) hx rfl hnew (cellsA_one _) (by decide) (by unfold maxLen; omega) (by omega) (fun v' w' r1 r2 => fin v' w' _ r1 (out_grownv hu r2))
  · refine wpList_append_arg w hgd s x _ ho 163 i z 4 48 Tryz.underlying31 hi hz hz1 hz2 hz3 (by decide) g 0 n cap (cur.toList.take (n * 4)) hs (by rw [List.length_take, Array.length_toList, h6]; omega) (fun j u hu => ?_) ⟨b, 0, none⟩ 1 c (cellsA [q]) hx rfl hnew (cellsA_one _) (fun hr j hj => ?_) (by unfold maxLen; omega) (by omega) (fun hr => ?_) (fun hr v' w' r1 r2 => fin v' w' _ r1 (out_grownv hu r2))
    · have hj := (List.getElem?_eq_some_iff.1 hu).1
      rw [List.getElem?_take] at hu
      split at hu
      · rw [Nat.zero_add]
        simp only [World.cell?, h4]
        simpa using hu
      · cases hu
    · have hj' : j < 4 := by simpa [cellsA] using hj
      rw [Nat.zero_add]
      exact ⟨by obtain ⟨u, hu⟩ := cell_atv h4 (n * 4 + j) (by omega); rw [hu]; rfl, frozen_of_row w g _ cur _ h4⟩
    · obtain ⟨cur', hc', hs'⟩ := (out_setCellsv (Nat.le_refl g) (Nat.lt_succ_self g) (cellsA [q]) (0 + n * 4) w (Out.refl g (g + 1) w)).shape g cur _ _ h4 (Nat.lt_succ_self g)
      refine h _ _ (Or.inr ⟨g, cap, cur', rfl, h2, hc', hr, by rw [hs', h6]⟩) ?_
      rcases h2 with ⟨h2, h3⟩ | h2
      · exact out_setCellsv h2 h3 _ _ _ hu
      · exact out_setCellsFar h2 _ _ _ hu

abbrev qOver (i : Int) : A2 := (⟨#[111, 118, 101, 114]⟩, 2, i, ⟨#[]⟩)
abbrev qMore : A2 := (⟨#[109, 111, 114, 101]⟩, 0, 0, ⟨#[]⟩)

set_option maxHeartbeats 2000000 in
set_option maxRecDepth 100000 in
theorem overAttrs_any (v : Value) (n L H : Nat) (w : World) (hv : LiR w L H w.heap.size v n) (hl : n ≤ 1048576) :
    Calls Tryz.prog 58 #[v] w fun r w' => r = .returned (.tuple #[]) ∧ Out L H w w' := by
  obtain ⟨p, cap, rfl⟩ := hv.val
  have HV : Hid (∀ W, Out L H w W → LiR W L H w.heap.size (.slice p n cap) n) := fun W hW => by
    rcases hv with h | ⟨g, cap', cur, h1, h2, h3, h4, h5⟩
    · exact Or.inl h
    · have hg : g < w.heap.size := (Array.getElem?_eq_some_iff.1 h3).1
      obtain ⟨cur', h6, h7⟩ := hW.shape g cur _ _ h3 (by omega)
      exact Or.inr ⟨g, cap', cur', h1, h2, h6, h4, by rw [h7, h5]⟩
  have HP : Hid (0 < n → ∃ g, p = some ⟨g, 0, none⟩ ∧ L ≤ g ∧ g < H ∧ ∀ W, Out L H w W → ∀ i, i < n * 4 → (∃ u, W.cell? ⟨g, i, none⟩ = some u) ∧ W.frozen? ⟨g, i, none⟩ = false) := fun h0 => by
    rcases hv with ⟨_, h⟩ | ⟨g, cap', cur, h1, h2, h3, h4, h5⟩
    · omega
    · have hg : g < w.heap.size := (Array.getElem?_eq_some_iff.1 h3).1
      simp only [Value.slice.injEq] at h1
      obtain ⟨rfl, -, rfl⟩ := h1
      refine ⟨g, rfl, by omega, by omega, fun W hW i hi => ?_⟩
      obtain ⟨cur', h6, h7⟩ := hW.shape g cur _ _ h3 (by omega)
      exact ⟨cell_atv h6 i (by rw [h7, h5]; omega), frozen_of_row W g i cur' _ h6⟩
  clear hv
  go_enter Tryz.func58, Tryz.ntmps58
  go_wp2
  go_loopw [2, 7] (fun _ i wr => ∃ (k : Nat), k ≤ n ∧ i = .int .i64 k ∧ Out L H w wr) (fun _ i _ => n - (RowKit.intOf i).toNat)
  case atStart => exact ⟨0, Nat.zero_le _, rfl, Out.refl _ _ _⟩
  case round =>
    obtain ⟨k, hk, rfl, ho⟩ := hrel
    by_cases hlt : k < n
    · have hltI : (k : Int) < n := by omega
      obtain ⟨g, rfl, hg1, hg2, hgc⟩ := HP.out (by omega)
      obtain ⟨⟨u0, e0⟩, f0⟩ := hgc _ ho (k * 4) (by omega)
      obtain ⟨⟨u1, e1⟩, f1⟩ := hgc _ ho (k * 4 + 1) (by omega)
      obtain ⟨⟨u2', e2⟩, f2⟩ := hgc _ ho (k * 4 + 2) (by omega)
      obtain ⟨⟨u3', e3⟩, f3⟩ := hgc _ ho (k * 4 + 3) (by omega)
      have HOO : Hid (Out L H w wr ∧ L ≤ g ∧ g < H) := ⟨ho, hg1, hg2⟩
      clear hgc ho hg1 hg2
      go_wp2_with fail
      go_roundw
      case rel => exact ⟨k + 1, by omega, by go_num, out_set4v HOO.out.1 HOO.out.2.1 HOO.out.2.2 _ _ _ _ _ _ _ _⟩
      case measure => simp [RowKit.intOf]; omega
    · have hltI : ¬ (k : Int) < n := by omega
      have hli := HV.out _ ho
      have HOO : Hid (Out L H w wr) := ho
      clear HP ho
      go_wp2_with fail
      have HL : Hid (LiR wr L H w.heap.size (.slice p n cap) n) := hli
      clear hli
      go_loopw [3, 4] (fun s i wr => ∃ (k : Nat), k ≤ 20 ∧ i = .int .i64 k ∧ Hid (Out L H w wr ∧ LiR wr L H w.heap.size s (n + k))) (fun _ i _ => 20 - (RowKit.intOf i).toNat)
      case atStart => exact ⟨0, Nat.zero_le _, rfl, HOO.out, HL.out⟩
      case round =>
        clear HOO HL
        obtain ⟨k, hk, rfl, HR⟩ := hrel
        obtain ⟨p', c', rfl⟩ := HR.out.2.val
        by_cases hlt : k < 20
        · have hltJ : (k : Int) < 20 := by omega
          have bA := (Below.refl wr.heap.size wr).alloc (Nat.le_refl _) (.cells #[.string ⟨#[109, 111, 114, 101]⟩, .int .i64 0, .int .i64 0, .string ⟨#[]⟩] 163)
          have HA : Hid (Out L H w (wr.alloc (.cells #[.string ⟨#[109, 111, 114, 101]⟩, .int .i64 0, .int .i64 0, .string ⟨#[]⟩] 163)) ∧ LiR (wr.alloc (.cells #[.string ⟨#[109, 111, 114, 101]⟩, .int .i64 0, .int .i64 0, .string ⟨#[]⟩] 163)) L H w.heap.size (.slice p' (n + k) c') (n + k)) :=
            ⟨HR.out.1.trans (Out.of_below bA), HR.out.2.below bA⟩
          have hb : n + k ≤ 2097152 := by omega
          clear HR bA
          go_wp2_with (at_builtin; refine wpList_append_res (u := w) rfl (.tmp 22) (.tmp 24) rfl L H (.slice p' (n + k) c') (n + k) rfl HA.out.2 HA.out.1 wr.heap.size 1 qMore rfl ⟨by simp, by simp, by simp, by simp⟩ hb ?_; intro v' w6 hl6 ho6; have HN : Hid (Out L H w w6 ∧ LiR w6 L H w.heap.size v' (n + (k + 1))) := ⟨ho6, hl6⟩; clear hl6 ho6 HA)
          go_roundw
          case rel => exact ⟨k + 1, by omega, by go_num, HN.out⟩
          case measure => simp [RowKit.intOf]; omega
        · have hltJ : ¬ (k : Int) < 20 := by omega
          go_wp2
          (try simp only [Exit.inBlock, Exit.then])
          refine bodyPost_end (results_none rfl _ _ _) rfl ?_
          exact ⟨rfl, HR.out.1⟩
end Go.Proofs.YthfpmhnnjjikcaaGreatDoor

/- vellumhand.Attrs: where the copy lies; what writing over a list leaves of others. -/
namespace Go.Proofs.YthfpmhnnjjikcaaGreatDoor
open Go Go.RowKit Go.Lib
set_option linter.unusedVariables false

/-- A copy with two more behind its end, in a block between two marks. -/
def HandO (w : World) (lo hi : Nat) (v : Value) (A : List A2) : Prop :=
  (A = [] ∧ v = .slice none 0 0) ∨ ∃ g c, A ≠ [] ∧ v = .slice (some ⟨g, 0, none⟩) A.length c ∧ g < hi ∧ OwnA w lo (.slice (some ⟨g, 0, none⟩) (A ++ [s1, s2]).length c) (A ++ [s1, s2])
/-- A row of the call's own in a block between two marks. -/
structure InA (w : World) (lo hi : Nat) (v : Value) (A : List A2) : Prop where
  own : OwnA w lo v A
  top : ∀ k, v.ownBlock = some k → k < hi
theorem InA.new {w : World} {B : Nat} {v : Value} {A : List A2} (h : OwnA w B v A) : InA w B w.heap.size v A :=
  ⟨h, fun k hk => by obtain ⟨_, cur, hc⟩ := owns_block h k hk; exact (Array.getElem?_eq_some_iff.1 hc).1⟩
theorem InA.below {w w' : World} {lo hi : Nat} {v : Value} {A : List A2} (h : InA w lo hi v A) (b : Below w.heap.size w w') : InA w' lo hi v A := ⟨owns_below h.own b, h.top⟩
theorem InA.out {w w' : World} {lo hi a b : Nat} {v : Value} {A : List A2} (h : InA w lo hi v A) (u : Out a b w w') (d : hi ≤ a ∨ b ≤ lo) : InA w' lo hi v A :=
  ⟨owns_same h.own fun k hk => by
    obtain ⟨h1, cur, h2⟩ := owns_block h.own k hk
    have := h.top k hk
    exact u.block k (Array.getElem?_eq_some_iff.1 h2).1 (by omega), h.top⟩
theorem InA.row {w : World} {lo hi : Nat} {v : Value} {A : List A2} (h : InA w lo hi v A) : RowA w v A := own_rowA h.own
theorem LiR.of_own {w : World} {lo hi B : Nat} {v : Value} {A : List A2} (h : InA w lo hi v A) : LiR w lo hi B v A.length := by
  rcases h.own.2 with h1 | ⟨g, cap, cur, h1, h2, h3, h4, h5, h6, _⟩
  · exact Or.inl h1
  · exact Or.inr ⟨g, cap, cur, h1, Or.inl ⟨h2, h.top g (by rw [h1]; rfl)⟩, h3, h4, h6⟩
theorem HandO.below {w w' : World} {lo hi : Nat} {v : Value} {A : List A2} (h : HandO w lo hi v A) (b : Below w.heap.size w w') : HandO w' lo hi v A := by
  rcases h with h | ⟨g, c, h1, h2, h3, h4⟩
  · exact Or.inl h
  · exact Or.inr ⟨g, c, h1, h2, h3, owns_below h4 b⟩
theorem HandO.out {w w' : World} {lo hi a b : Nat} {v : Value} {A : List A2} (h : HandO w lo hi v A) (u : Out a b w w') (d : hi ≤ a ∨ b ≤ lo) : HandO w' lo hi v A := by
  rcases h with h | ⟨g, c, h1, h2, h3, h4⟩
  · exact Or.inl h
  · exact Or.inr ⟨g, c, h1, h2, h3, ((InA.mk h4 (fun k hk => by simp only [Value.ownBlock, Option.some.injEq] at hk; omega) : InA w lo hi _ _).out u d).own⟩
theorem HandO.hand {w : World} {lo hi : Nat} {v : Value} {A : List A2} (h : HandO w lo hi v A) : HandA w v A := by
  rcases h with ⟨rfl, rfl⟩ | ⟨g, c, h1, rfl, h3, h4⟩
  · exact ⟨fun m c h => by simp only [Value.slice.injEq] at h; exact ⟨h.2.1.symm, h.2.2.symm⟩, RowA.nil _ _ _, fun h => absurd rfl h⟩
  · have hr := own_rowA h4
    have hl : (A ++ [s1, s2]).length = A.length + 2 := by simp
    rw [hl] at hr
    obtain ⟨p', c', e', hc', hr'⟩ := hr
    simp only [Value.slice.injEq] at e'
    obtain ⟨rfl, hL, rfl⟩ := e'
    rw [hl] at hc'
    refine ⟨fun m c h => by simp at h, ⟨_, _, rfl, by omega, fun j x hx => hr' j x (by rw [List.getElem?_append_left (List.getElem?_eq_some_iff.1 hx).1]; exact hx)⟩, fun _ => ⟨_, _, rfl, hc', ⟨_, _, by rw [hl], by rw [hl]; exact hc', hr'⟩⟩⟩
theorem HandO.li {w : World} {lo hi B : Nat} {v : Value} {A : List A2} (h : HandO w lo hi v A) : LiR w lo hi B v A.length := by
  rcases h with ⟨rfl, rfl⟩ | ⟨g, c, h1, rfl, h3, h4⟩
  · exact Or.inl ⟨rfl, rfl⟩
  · rcases h4.2 with ⟨_, h5⟩ | ⟨g', cap, cur, h5, h6, h7, h8, h9, h10, _⟩
    · simp at h5
    · simp only [Value.slice.injEq, Option.some.injEq, Addr.mk.injEq, and_true, true_and] at h5
      obtain ⟨rfl, -, rfl⟩ := h5
      exact Or.inr ⟨g, c, cur, rfl, Or.inl ⟨h6, h3⟩, h7, by simp at h8; omega, h10⟩
set_option maxHeartbeats 2000000 in
set_option maxRecDepth 100000 in
theorem hattrs_own (v : Value) (A : List A2) (w : World) (hA : RowA w v A) (hl : A.length ≤ 1048576) :
    Calls Tryz.prog 52 #[v] w fun r w' => ∃ v', r = .returned v' ∧ HandO w' w.heap.size w'.heap.size v' A ∧ Below w.heap.size w w' := by
  obtain ⟨n, hn⟩ : ∃ n, A.length = n := ⟨_, rfl⟩
  obtain ⟨p, cap, rfl, hcap, hc⟩ := hA
  rw [hn] at hl hcap ⊢
  have HN : Hid (A.length = n) := hn
  have HC : Hid _ := hc
  clear hc hn
  by_cases h0 : n = 0
  · subst h0
    obtain rfl : A = [] := List.eq_nil_of_length_eq_zero HN.out
    go_enter Tryz.func52, Tryz.ntmps52
    go_wp2
    go_ret
    exact ⟨.slice none 0 0, rfl, Or.inl ⟨rfl, rfl⟩, Below.refl _ _⟩
  · have h0I : ((n : Int) == 0) = false := by simp; omega
    obtain ⟨q, hq⟩ : ∃ q, A[0]? = some q := ⟨_, List.getElem?_eq_getElem (by rw [HN.out]; omega)⟩
    obtain ⟨b, off, rfl, _⟩ := HC.out 0 q hq
    have hne : A ≠ [] := fun e => by have := HN.out; rw [e] at this; exact h0 this.symm
    have HE : Hid (A ≠ []) := hne
    clear hq hne h0
    have oE := own_empty' w w.heap.size (Nat.le_refl _)
    have bE := (Below.refl w.heap.size w).alloc (Nat.le_refl _) (.cells #[] 163)
    have hM : Hid (∀ (j : Nat) (x : A2), A[j]? = some x → PairAt (w.alloc (.cells #[] 163)) b (off + j * 4) x) := fun j x hx => by
      obtain ⟨b', off', he, h⟩ := HC.out j x hx
      cases he
      exact h.below bE
    have hL0 : ([] : List A2).length + n ≤ 2097152 := by simp; omega
    go_enter Tryz.func52, Tryz.ntmps52
    go_wp2_with (first
      | (at_builtin; refine wpList_append_atx rfl (.tmp 7) (.tmp 8) rfl w.heap.size (.slice (some ⟨w.heap.size, 0, none⟩) 0 0) [] rfl oE b off n cap A rfl HN.out hM.out hL0 bE.size ?_; intro v9 w9 own9 gr9 hat9; have b10 := (bE.grown gr9 bE.size (fun j hj => by simp only [Value.ownBlock, Option.some.injEq] at hj; omega)).alloc (by have h0 := gr9.size; have h1 := bE.size; omega) (.cells #[.string ⟨#[115, 112, 97, 114, 101]⟩, .int .i64 0, .int .i64 0, .string ⟨#[]⟩, .string ⟨#[114, 111, 111, 109]⟩, .int .i64 0, .int .i64 0, .string ⟨#[]⟩] 163); have O9 : Hid (OwnA w9 w.heap.size v9 A) := own9; have O10 : Hid (OwnA (w9.alloc (.cells #[.string ⟨#[115, 112, 97, 114, 101]⟩, .int .i64 0, .int .i64 0, .string ⟨#[]⟩, .string ⟨#[114, 111, 111, 109]⟩, .int .i64 0, .int .i64 0, .string ⟨#[]⟩] 163)) w.heap.size v9 A) := owns_below O9.out ((Below.refl _ _).alloc (Nat.le_refl _) _); have hL1 : Hid (A.length + 2 ≤ 2097152) := (by show _ ≤ _; rw [HN.out]; omega); have hge : Hid (∀ j, v9.ownBlock = some j → w.heap.size ≤ j) := (fun j hj => (owns_block O10.out j hj).1); clear own9 gr9 hat9 oE bE hM O9)
      | (at_builtin; refine wpList_append_atx rfl (.tmp 9) (.tmp 12) rfl w.heap.size v9 A rfl O10.out w9.heap.size 0 2 2 [s1, s2] rfl rfl (two_at ⟨by simp, by simp, by simp, by simp⟩ ⟨by simp, by simp, by simp, by simp⟩) hL1.out b10.size ?_; intro v11 w11 own11 gr11 hat11; have b11 := b10.grown gr11 b10.size (fun j hj => hge.out j hj); obtain ⟨p11, c11, e11, hc11, hr11⟩ := own_rowA own11; rw [show (A ++ [s1, s2]).length = n + 2 by simp [HN.out]] at e11 hc11; subst e11; have HR : Hid (OwnA w11 w.heap.size (.slice p11 (n + 2) c11) (A ++ [s1, s2])) := own11; have hcI : n ≤ c11 := (by omega); clear own11 gr11 hat11 O10 b10 hge hr11))
    go_ret
    have ho := HR.out
    rcases HR.out.2 with ⟨h1, _⟩ | ⟨g, cap, cur, h1, h2, h3, h4, h5, h6, h7⟩
    · simp at h1
    · simp only [Value.slice.injEq] at h1
      obtain ⟨rfl, -, rfl⟩ := h1
      exact ⟨_, rfl, Or.inr ⟨g, c11, HE.out, by rw [HN.out]; rfl, (Array.getElem?_eq_some_iff.1 h3).1, by rw [show (A ++ [s1, s2]).length = n + 2 by simp [HN.out]]; exact ho⟩, b11⟩
end Go.Proofs.YthfpmhnnjjikcaaGreatDoor

/- build: Pieces: each piece's list lies in blocks of its own. -/
namespace Go.Proofs.YthfpmhnnjjikcaaGreatDoor
open Go Go.RowKit Go.Lib
set_option linter.unusedVariables false

/-- Marks that rise from lo on, the first k + 1 of them up to hi. -/
structure MonZ (lo hi k : Nat) (Z : Nat → Nat) : Prop where
  mono : ∀ j, Z j ≤ Z (j + 1)
  zero : Z 0 = lo
  top : Z k ≤ hi
theorem MonZ.up {lo hi hi' k : Nat} {Z : Nat → Nat} (h : MonZ lo hi k Z) (hh : hi ≤ hi') : MonZ lo hi' k Z := ⟨h.mono, h.zero, Nat.le_trans h.top hh⟩
theorem MonZ.le {lo hi k : Nat} {Z : Nat → Nat} (h : MonZ lo hi k Z) : ∀ {i j : Nat}, i ≤ j → Z i ≤ Z j := fun {i j} hij => by
  induction j with
  | zero => obtain rfl : i = 0 := by omega
            exact Nat.le_refl _
  | succ j ih =>
    rcases Nat.lt_or_ge i (j + 1) with h1 | h1
    · exact Nat.le_trans (ih (by omega)) (h.mono j)
    · obtain rfl : i = j + 1 := by omega
      exact Nat.le_refl _
/-- Pieces, the list of the k-th between the k-th mark and the next. -/
def PieZ (w : World) (Z : Nat → Nat) (P : List Value) (E : List Op5) : Prop := P.length = E.length ∧ ∀ (k : Nat) (x : Value) (e : Op5), P[k]? = some x → E[k]? = some e → ∃ s, x = pieceQ e s ∧ InA w (Z k) (Z (k + 1)) s e.A
theorem InA.keep {w w' : World} {lo hi : Nat} {v : Value} {A : List A2} (h : InA w lo hi v A) (k : KeepA w w') : InA w' lo hi v A := ⟨keepA_own h.own k, h.top⟩
theorem PieZ.keep {w w' : World} {Z : Nat → Nat} {P : List Value} {E : List Op5} (h : PieZ w Z P E) (b : KeepA w w') : PieZ w' Z P E :=
  ⟨h.1, fun k x e hx he => by obtain ⟨s, h1, h2⟩ := h.2 k x e hx he; exact ⟨s, h1, h2.keep b⟩⟩
theorem PieZ.below {w w' : World} {Z : Nat → Nat} {P : List Value} {E : List Op5} (h : PieZ w Z P E) (b : Below w.heap.size w w') : PieZ w' Z P E := h.keep (keepA_below b)
theorem PieZ.snoc {w : World} {Z : Nat → Nat} {P : List Value} {E : List Op5} {x s : Value} {e : Op5} {lo l0 k : Nat} (hZ : MonZ l0 lo k Z) (h : PieZ w Z P E) (hk : P.length = k) (hx : x = pieceQ e s) (hs : OwnA w lo s e.A) (hlw : lo ≤ w.heap.size) :
    MonZ l0 w.heap.size (k + 1) (fun j => if j ≤ k then Z j else w.heap.size) ∧ PieZ w (fun j => if j ≤ k then Z j else w.heap.size) (P ++ [x]) (E ++ [e]) := by
  have hkw : ∀ j, j ≤ k → Z j ≤ w.heap.size := fun j hj => Nat.le_trans (hZ.le hj) (Nat.le_trans hZ.top hlw)
  refine ⟨⟨fun j => ?_, ?_, ?_⟩, by rw [List.length_append, List.length_append, h.1]; rfl, fun j y f hy hf => ?_⟩
  · by_cases h1 : j + 1 ≤ k
    · rw [if_pos (by omega), if_pos h1]; exact hZ.mono j
    · rw [if_neg h1]
      by_cases h2 : j ≤ k
      · rw [if_pos h2]; exact hkw j h2
      · rw [if_neg h2]; exact Nat.le_refl _
  · rw [if_pos (Nat.zero_le _)]; exact hZ.zero
  · rw [if_neg (by omega)]; exact Nat.le_refl _
  · have hj : j < P.length + 1 := by have := (List.getElem?_eq_some_iff.1 hy).1; rw [List.length_append] at this; exact this
    rcases Nat.lt_or_ge j P.length with h1 | h1
    · rw [List.getElem?_append_left h1] at hy
      rw [List.getElem?_append_left (by rw [← h.1]; exact h1)] at hf
      simp only []
      rw [if_pos (show j ≤ k by omega), if_pos (show j + 1 ≤ k by omega)]
      exact h.2 j y f hy hf
    · obtain rfl : j = P.length := by omega
      rw [List.getElem?_append_right (Nat.le_refl _), Nat.sub_self] at hy
      rw [List.getElem?_append_right (by rw [h.1]; exact Nat.le_refl _), h.1, Nat.sub_self] at hf
      simp only [List.getElem?_cons_zero, Option.some.injEq] at hy hf
      subst hy; subst hf
      simp only []
      rw [if_pos (show P.length ≤ k by omega), if_neg (show ¬ P.length + 1 ≤ k by omega)]
      refine ⟨s, hx, own_weaken hs (by rw [hk]; exact hZ.top), fun j hj => ?_⟩
      obtain ⟨_, cur, hc⟩ := owns_block hs j hj
      exact (Array.getElem?_eq_some_iff.1 hc).1
set_option maxHeartbeats 4000000 in
set_option maxRecDepth 100000 in
theorem piecesZ_any {B1 B2 : Nat} (v : Value) (E : List Op5) (w : World) (h : DelV w B1 B2 v E) (hg : ∀ o ∈ E, opE o = 0) (hA : ∀ o ∈ E, o.A.length ≤ 2097152) (hl : E.length ≤ 4194304) :
    Calls Tryz.prog 75 #[v] w fun e w' => ∃ v', e = .returned v' ∧ (∃ P, OwnI w' w.heap.size v' P ∧ ∃ Z, MonZ w.heap.size w'.heap.size E.length Z ∧ PieZ w' Z P E) ∧ Below w.heap.size w w' := by
  obtain ⟨q, pv, PL, rfl, _, hq, hrow, hpie⟩ := h
  have c0 : w.cell? ⟨q, 0, none⟩ = some pv := by rw [cell_of_heap hq]; rfl
  obtain ⟨p, cap, rfl, hrd⟩ := del_read (q := q) hrow hpie
  have HV : Hid (∀ k, k < E.length → ∃ ga e s, p = some ⟨ga, 0, none⟩ ∧ E[k]? = some e ∧ w.cell? ⟨ga, k, none⟩ = some (pieceQ e s) ∧ OwnA w B2 s e.A) := hrd
  have HG : Hid (∀ o ∈ E, opE o = 0 ∧ o.A.length ≤ 2097152) := fun o ho => ⟨hg o ho, hA o ho⟩
  obtain ⟨n, hn⟩ : ∃ n, E.length = n := ⟨_, rfl⟩
  have HN : Hid (E.length = n) := hn
  rw [hn] at c0 hl HV
  clear hq hrow hpie hrd hg hA hn
  go_enter Tryz.func75, Tryz.ntmps75
  go_wp2_with (at_make; refine wpList_make_pi2 _ rfl _ _ rfl w.heap.size .i64 .i64 _ n rfl rfl rfl (by omega) (Nat.le_refl _) ?_; intro v0 w1 hown hgr; have hb1 : Below w.heap.size w w1 := (Below.refl _ _).grown hgr (Nat.le_refl _) (fun k hk => by cases hk); have c1 := (hb1.cell (lt_of_cell c0)).trans c0; clear hgr)
  go_loopw [3, 17] (fun al i wr => ∃ (k : Nat) (D : List Value), k ≤ n ∧ i = .int .i64 k ∧ D.length = k ∧ OwnI wr w.heap.size al D ∧ Hid (∃ Z, MonZ w.heap.size wr.heap.size k Z ∧ PieZ wr Z D (E.take k)) ∧ Below w.heap.size w wr) (fun _ i _ => n - (RowKit.intOf i).toNat)
  case atStart => exact ⟨0, [], Nat.zero_le _, rfl, rfl, hown, ⟨fun _ => w.heap.size, ⟨fun _ => Nat.le_refl _, rfl, hb1.size⟩, by rw [List.take_zero]; exact ⟨rfl, fun k x e h => by simp at h⟩⟩, hb1⟩
  case round =>
    clear hown hb1 c1
    obtain ⟨k, D, hk, rfl, hDl, hown, hsp, hbw⟩ := hrel
    by_cases hlt : k < n
    · have hltI : (k : Int) < n := by omega
      obtain ⟨ga, e, s, rfl, he, hc, hs⟩ := HV.out k hlt
      have c2 := (hbw.cell (lt_of_cell hc)).trans hc
      have hs2 := owns_below hs hbw
      obtain ⟨hg1, hA1⟩ := HG.out e (List.mem_of_getElem? he)
      have HT : Hid (E.take (k + 1) = E.take k ++ [e]) := by show _ = _; rw [List.take_add_one, he]; rfl
      have hge : Hid (∀ j, u3.ownBlock = some j → w.heap.size ≤ j) := fun j hj => (owns_block hown j hj).1
      have HO : Hid (OwnI wr w.heap.size u3 D) := hown
      have hlen : D.length ≤ 8388608 := by omega
      have hlz : w.heap.size ≤ wr.heap.size := hbw.size
      have cO := ownP_any e s wr hg1 (own_RN hs2) hA1
      obtain ⟨u, x, hux⟩ := pieceQ_if e s
      have hq := fun s' => pieceQ_if e s'
      obtain ⟨PQ, hPQ⟩ : ∃ f : Value → Value, pieceQ e = f := ⟨_, rfl⟩
      have HPQ : Hid (pieceQ e = PQ) := hPQ
      rw [hPQ] at cO hux hq
      rw [hPQ] at c2
      rw [hux] at c2 cO
      have HSP : Hid _ := hsp.out
      clear he hc hs hs2 hown hsp hg1 hA1 hux hPQ
      go_wp2_with fail
      refine cO.mono ?_; rintro r w5 ⟨s', rfl, own5, hb5⟩
      obtain ⟨u', x', hux'⟩ := hq s'
      have HU : Hid (PQ s' = .iface u' x') := hux'
      rw [hux']
      have bw5 : Below w.heap.size w w5 := hbw.trans (hb5.mono hlz)
      have ba : Below w5.heap.size w5 (w5.alloc (.cells #[.iface u' x'] 56)) := (Below.refl _ _).alloc (Nat.le_refl _) _
      have hu6 : (w5.alloc (.cells #[.iface u' x'] 56)).cell? ⟨w5.heap.size, 0, none⟩ = some (.iface u' x') := by simp
      have HO7 : Hid (OwnI (w5.alloc (.cells #[.iface u' x'] 56)) w.heap.size u3 D) := owns_below (owns_below HO.out hb5) ba
      have HP7 : Hid (∃ Z, MonZ w.heap.size (w5.alloc (.cells #[.iface u' x'] 56)).heap.size (k + 1) Z ∧ PieZ (w5.alloc (.cells #[.iface u' x'] 56)) Z (D ++ [.iface u' x']) (E.take (k + 1))) := by
        show ∃ Z, _
        rw [HT.out]
        obtain ⟨Z, hZ, hP⟩ := HSP.out
        have hlk : D.length = k := hDl
        obtain ⟨a1, a2⟩ := PieZ.snoc (lo := wr.heap.size) (s := s') (x := .iface u' x') (e := e) hZ ((hP.below hb5).below ba) hlk (by rw [HPQ.out, HU.out]) (owns_below own5 ba) (Nat.le_trans hb5.size ba.size)
        exact ⟨_, a1, a2⟩
      have bw7 := bw5.trans (ba.mono bw5.size)
      clear own5 hb5 bw5 ba HO HT cO c2 hux' hq HSP
      go_wp2_with (at_builtin; refine wpList_append_piAt rfl (.tmp 21) (.tmp 24) rfl w.heap.size u3 D rfl HO7.out w5.heap.size 1 (.iface u' x') rfl hu6 rfl hlen bw7.size ?_; intro v8 w8 own8 gr8 hat8; have hsp8 : Hid (∃ Z, MonZ w.heap.size w8.heap.size (k + 1) Z ∧ PieZ w8 Z _ _) := (by obtain ⟨Z, h1, h2⟩ := HP7.out; exact ⟨Z, h1.up gr8.size, h2.keep (keepA_grownI HO7.out gr8)⟩); have b8 := bw7.grown gr8 bw7.size (fun j hj => hge.out j hj); have HO8 : Hid (OwnI w8 w.heap.size v8 _) := own8; clear own8 gr8 hat8 HO7 HP7 hu6)
      go_roundw
      case rel => exact ⟨k + 1, _, by omega, by go_num, by simp [hDl], HO8.out, hsp8, b8⟩
      case measure => simp [RowKit.intOf]; omega
    · have hltI : ¬ (k : Int) < n := by omega
      have hE : E.take k = E := List.take_of_length_le (by rw [HN.out]; omega)
      have hkn : k = n := by omega
      rw [hE] at hsp; have hsp := hsp.out
      have HX : Hid (∃ P, OwnI wr w.heap.size u3 P ∧ ∃ Z, MonZ w.heap.size wr.heap.size E.length Z ∧ PieZ wr Z P E) := by obtain ⟨Z, h1, h2⟩ := hsp; exact ⟨D, hown, Z, by rw [HN.out, ← hkn]; exact h1, h2⟩
      clear hown hsp
      go_wp2
      go_ret
      exact ⟨u3, rfl, HX.out, hbw⟩
end Go.Proofs.YthfpmhnnjjikcaaGreatDoor

/- What Each's function hands over, for whatever loop body. -/
namespace Go.Proofs.YthfpmhnnjjikcaaGreatDoor
open Go Go.RowKit Go.Lib Go.Shelf
set_option linter.unusedVariables false
attribute [local go_sem] Oper.semAt_some

/-- A delta in a box. -/
def BoxD (w : World) (x : Nat) (B1 B2 : Nat) (E : List Op5) : Prop := ∃ v, w.cell? ⟨x, 0, none⟩ = some v ∧ DelV w B1 B2 v E
theorem BoxD.below {w w' : World} {x B1 B2 : Nat} {E : List Op5} (h : BoxD w x B1 B2 E) (b : Below w.heap.size w w') : BoxD w' x B1 B2 E := by
  obtain ⟨v, h1, h2⟩ := h
  exact ⟨v, (b.cell (lt_of_cell h1)).trans h1, h2.below b⟩
theorem each7_call {B1 B2 : Nat} (v : Value) (E : List Op5) (w : World) (h : DelV w B1 B2 v E) :
    Calls Tryz.prog 66 #[v] w fun r w' => ∃ x, r = .returned (.func (.func 99) #[] #[.pointer (some ⟨x, 0, none⟩)]) ∧ BoxD w' x B1 B2 E ∧ w.heap.size ≤ x ∧ Below w.heap.size w w' := by
  have bA : Below w.heap.size w (w.alloc (.cells #[v] 36)) := (Below.refl _ _).alloc (Nat.le_refl _) _
  have HD : Hid (DelV (w.alloc (.cells #[v] 36)) B1 B2 v E) := h.below bA
  obtain ⟨q, pv, PL, rfl, _⟩ := h
  go_enter Tryz.func66, Tryz.ntmps66
  go_wp2
  go_ret
  exact ⟨_, rfl, ⟨_, by simp, HD.out⟩, Nat.le_refl _, bA⟩

/-- A piece that is handed over, the blocks among which its list lies. -/
abbrev PZ : Type := Value × Nat × Nat
abbrev encZ (x : PZ) : Array Value := #[x.1]
def GZ (E : List Op5) (B0 : Nat) (pre : List PZ) (x : PZ) (W : World) : Prop := ∃ e s, E[pre.length]? = some e ∧ x.1 = pieceQ e s ∧ InA W x.2.1 x.2.2 s e.A ∧ B0 ≤ x.2.1 ∧ x.2.2 ≤ W.heap.size
/-- What a round keeps: the pieces, and all lists but the one that was handed over. -/
structure KZ (pre : List PZ) (x : PZ) (A A' : World) : Prop where
  size : A.heap.size ≤ A'.heap.size
  pie : ∀ (k : Nat) (cs : Array Value), A.heap[k]? = some (.cells cs 56 (0, 0)) → A'.heap[k]? = some (.cells cs 56 (0, 0))
  att : ∀ (k : Nat) (cs : Array Value), A.heap[k]? = some (.cells cs 163 (0, 0)) → (k < x.2.1 ∨ x.2.2 ≤ k) → A'.heap[k]? = some (.cells cs 163 (0, 0))
theorem ina_same {w w' : World} {lo hi : Nat} {v : Value} {A : List A2} (h : InA w lo hi v A) (hk : ∀ (k : Nat) (cs : Array Value), w.heap[k]? = some (.cells cs 163 (0, 0)) → lo ≤ k → k < hi → w'.heap[k]? = some (.cells cs 163 (0, 0))) : InA w' lo hi v A := by
  obtain ⟨h1, h2⟩ := h
  refine ⟨owns_same h1 fun k e => ?_, h2⟩
  obtain ⟨b1, cs, b2⟩ := owns_block h1 k e
  rw [b2]
  exact hk k cs b2 b1 (h2 k e)
theorem GZ.bk {E : List Op5} {B0 B : Nat} {pre : List PZ} {x : PZ} {A A' : World} (h : GZ E B0 pre x A) (k : Bk7 B A A') : GZ E B0 pre x A' := by
  obtain ⟨e, s, h1, h2, h3, h4, h5⟩ := h
  exact ⟨e, s, h1, h2, ina_same h3 fun j cs hj _ _ => k.kept j _ hj (.inr rfl), h4, Nat.le_trans h5 k.size⟩
theorem KZ.bk {B : Nat} {pre : List PZ} {x : PZ} {A A' C C' : World} (k1 : Bk7 B A A') (h : KZ pre x A' C) (k2 : Bk7 B C C') : KZ pre x A C' :=
  ⟨Nat.le_trans k1.size (Nat.le_trans h.size k2.size), fun k cs hk => k2.kept k _ (h.pie k cs (k1.kept k _ hk (.inr rfl))) (.inr rfl), fun k cs hk ho => k2.kept k _ (h.att k cs (k1.kept k _ hk (.inr rfl)) ho) (.inr rfl)⟩
set_option maxHeartbeats 4000000 in
set_option maxRecDepth 100000 in
theorem each7_seq (E : List Op5) (w0 : World) (x B1 B2 : Nat) (hT : BoxD w0 x B1 B2 E) (hg : ∀ o ∈ E, opE o = 0) (hA : ∀ o ∈ E, o.A.length ≤ 2097152) (hl : E.length ≤ 4194304) (n : Nat) (hn : 2 ≤ n) :
    SeqG Fence.wide n Tryz.prog 99 #[.pointer (some ⟨x, 0, none⟩)] encZ (fun _ => False) (GZ E w0.heap.size) KZ (fun xs => xs.length = E.length) w0 := fun l J Jx W hW hJ hJx hY h0 => by
  obtain ⟨v, hx, hd⟩ := hT
  have c0 : W.cell? ⟨x, 0, none⟩ = some v := (hW.cell (lt_of_cell hx)).trans hx
  have cP := piecesZ_any v E W (hd.below hW) hg hA hl
  have hz0 : w0.heap.size ≤ W.heap.size := hW.size
  obtain ⟨m, hm⟩ : ∃ m, E.length = m := ⟨_, rfl⟩
  have HM : Hid (E.length = m) := hm
  have HJ : Hid (∀ p W1 W2, J p W1 → Below W1.heap.size W1 W2 → J p W2) := fun p W1 W2 h1 h2 => hJ p W1 W2 h1 (It7.of_below h2)
  have HY : Hid (∀ pre x W1, J pre W1 → GZ E w0.heap.size pre x W1 → YieldAt Fence.wide (n - 1) Tryz.prog l (encZ x) W1 fun e W' =>
      (e = .returned (.bool true) ∧ J (pre ++ [x]) W' ∧ KZ pre x W1 W') ∨ (e = .returned (.bool false) ∧ Jx (pre ++ [x]) W')) := hY
  rw [hm] at hl ⊢
  clear hY hJ hJx hx hd hg hA hW hm
  refine callsIn_of_wp Tryz.func99 rfl trivial ?_ rfl
  simp only [Tryz.ntmps99, List.size_toArray, List.length_cons, List.length_nil, Nat.reduceAdd, Nat.reduceSub, Array.replicate_succ, Array.replicate_zero, List.push_toArray, List.append_toArray, List.nil_append, List.cons_append]
  gi_wp2
  refine ⟨trivial, (fun _ => Nat.le_trans (by decide) hn), (callsIn_wide.2 cP).mono ?_⟩
  rintro r w2 ⟨v', rfl, ⟨P, own, Z, hZ, hP⟩, hb2⟩
  have hPE : P.length = m := hP.1.trans HM.out
  obtain ⟨p, cap, hv⟩ := own_slice own
  have H2 : Hid (OwnI w2 W.heap.size v' P ∧ ∀ (j : Nat) (x : Value) (e : Op5), 0 ≤ j → P[j]? = some x → E[j]? = some e → ∃ s, x = pieceQ e s ∧ InA w2 (Z j) (Z (j + 1)) s e.A) := ⟨own, fun j x e _ h1 h2 => hP.2 j x e h1 h2⟩
  have HZ : Hid (MonZ W.heap.size w2.heap.size m Z ∧ w0.heap.size ≤ W.heap.size) := (by rw [HM.out] at hZ; exact ⟨hZ, hz0⟩)
  have HPL : Hid (P.length = m) := hPE
  have hJ2 := HJ.out _ _ _ h0 hb2
  rw [hPE] at hv
  subst hv
  have hN : Hid (2 ≤ n) := hn
  clear cP c0 own hZ hP hb2 h0 hPE hz0 hn
  gi_wp2
  gi_loopw [4, 8] (fun _ i wr => ∃ (k : Nat) (xs : List PZ), k ≤ m ∧ i = .int .i64 (k : Nat) ∧ xs.length = k ∧ J xs wr ∧ w2.heap.size ≤ wr.heap.size ∧ Hid (OwnI wr W.heap.size (.slice p m cap) P ∧ ∀ (j : Nat) (x : Value) (e : Op5), k ≤ j → P[j]? = some x → E[j]? = some e → ∃ s, x = pieceQ e s ∧ InA wr (Z j) (Z (j + 1)) s e.A)) (fun _ i _ => m - (RowKit.intOf i).toNat)
  case atStart => exact ⟨0, [], Nat.zero_le _, rfl, rfl, hJ2, Nat.le_refl _, H2⟩
  case round =>
    clear hJ2 H2
    obtain ⟨k, xs, hk, rfl, hxs, hJk, hsz, H⟩ := hrel
    by_cases hlt : k < m
    · have hltI : (k : Int) < (m : Int) := by omega
      obtain ⟨gP, cP, xv, hv', _, hxv, hcx⟩ := own_cell H.out.1 k (by rw [HPL.out]; exact hlt)
      simp only [Value.slice.injEq] at hv'
      obtain ⟨rfl, -, rfl⟩ := hv'
      obtain ⟨e, he⟩ : ∃ e, E[k]? = some e := ⟨_, List.getElem?_eq_getElem (by rw [HM.out]; exact hlt)⟩
      obtain ⟨s, hxs', hin⟩ := H.out.2 k xv e (Nat.le_refl _) hxv he
      have hG : GZ E w0.heap.size xs (xv, Z k, Z (k + 1)) wr := ⟨e, s, by rw [hxs]; exact he, hxs', hin, by
        have := HZ.out.1.le (Nat.zero_le k); rw [HZ.out.1.zero] at this; have := HZ.out.2; show _ ≤ Z k; omega, by
        have := HZ.out.1.le (show k + 1 ≤ m from hlt); have := HZ.out.1.top; show Z (k + 1) ≤ _; omega⟩
      have hYk := HY.out xs (xv, Z k, Z (k + 1)) wr hJk hG
      obtain ⟨u, y, hux⟩ := pieceQ_if e s
      rw [hux] at hxs'
      subst hxs'
      have HQ : Hid (xs.length = k ∧ k + 1 ≤ m ∧ w2.heap.size ≤ wr.heap.size) := ⟨hxs, hlt, hsz⟩
      obtain ⟨fn, tm, asg, bo, hy, hR⟩ := hYk
      clear hJk hxv he hin hG hux hxs hk hlt hsz
      gi_wp2
      refine ⟨(fun _ => Nat.le_trans (by decide) hN.out), hR.mono ?_⟩
      rintro e' W3 (⟨rfl, hJ3, hk3⟩ | ⟨rfl, hJx3⟩)
      · have H3 : Hid (OwnI W3 W.heap.size (.slice (some ⟨gP, 0, none⟩) m cap) P ∧ ∀ (j : Nat) (x : Value) (e : Op5), k + 1 ≤ j → P[j]? = some x → E[j]? = some e → ∃ s, x = pieceQ e s ∧ InA W3 (Z j) (Z (j + 1)) s e.A) := by
          refine ⟨owns_same H.out.1 fun b hb => ?_, fun j x e' hj h1 h2 => ?_⟩
          · obtain ⟨_, cs, hcs⟩ := owns_block H.out.1 b hb
            rw [hcs]; exact hk3.pie b cs hcs
          · obtain ⟨s', e1, e2⟩ := H.out.2 j x e' (by omega) h1 h2
            exact ⟨s', e1, ina_same e2 fun b cs hb hlo _ => hk3.att b cs hb (.inr (Nat.le_trans (HZ.out.1.le hj) hlo))⟩
        have HS3 : Hid (w2.heap.size ≤ W3.heap.size) := Nat.le_trans HQ.out.2.2 hk3.size
        clear hk3 H
        gi_wp2
        go_roundw
        case rel => exact ⟨k + 1, xs ++ [(.iface u y, Z k, Z (k + 1))], HQ.out.2.1, by go_num, by rw [List.length_append, HQ.out.1]; rfl, hJ3, HS3.out, H3⟩
        case measure => simp [RowKit.intOf]; have := HQ.out.2.1; omega
      · gi_wp2
        refine bodyPost_ret (results_none rfl _ _ _) rfl ?_
        exact ⟨⟨_, rfl⟩, .inr ⟨_, hJx3⟩⟩
    · have hltI : ¬ (k : Int) < (m : Int) := by omega
      have hkm : xs.length = m := by omega
      clear H
      gi_wp2
      go_end0
      exact ⟨⟨_, rfl⟩, .inl ⟨xs, hkm, hJk⟩⟩
end Go.Proofs.YthfpmhnnjjikcaaGreatDoor

/- Cells one by one, as plain data: their error, the operation that inserts one. -/
namespace Go.Proofs.YthfpmhnnjjikcaaGreatDoor
open Go Go.RowKit Go.Lib
set_option linter.unusedVariables false

theorem encU_eq {r : Nat} (h : scal r) : Utf8.encode (r : Int) = ⟨(enc r).toArray⟩ := by
  have hv : Utf8.valid (r : Int) = true := by
    unfold Utf8.valid
    unfold scal at h
    rcases h with h | h
    · have h1 : (0 : Int) ≤ r := by omega
      have h2 : (r : Int) < 55296 := by omega
      simp [h1, h2]
    · have h1 : (57344 : Int) ≤ r := by omega
      have h2 : (r : Int) ≤ 1114111 := by omega
      simp [h1, h2]
  unfold Utf8.encode
  simp only [hv, if_true, Int.toNat_natCast]
  by_cases h1 : r < 128
  · rw [if_pos h1, enc_one h1]; simp
  rw [if_neg h1]
  by_cases h2 : r < 2048
  · rw [if_pos h2, enc_two (by omega) h2]
    have e1 : (192 + (r : Int) / 64).toNat = 192 + r / 64 := by omega
    have e2 : (128 + (r : Int) % 64).toNat = 128 + r % 64 := by omega
    rw [e1, e2]
  rw [if_neg h2]
  by_cases h3 : r < 65536
  · rw [if_pos h3, enc_three (by omega) h3 h]
    have e1 : (224 + (r : Int) / 4096).toNat = 224 + r / 4096 := by omega
    have e2 : (128 + (r : Int) / 64 % 64).toNat = 128 + r / 64 % 64 := by omega
    have e3 : (128 + (r : Int) % 64).toNat = 128 + r % 64 := by omega
    rw [e1, e2, e3]
  · rw [if_neg h3, enc_four (by omega) (by unfold scal at h; omega)]
    have e1 : (240 + (r : Int) / 262144).toNat = 240 + r / 262144 := by omega
    have e2 : (128 + (r : Int) / 4096 % 64).toNat = 128 + r / 4096 % 64 := by omega
    have e3 : (128 + (r : Int) / 64 % 64).toNat = 128 + r / 64 % 64 := by omega
    have e4 : (128 + (r : Int) % 64).toNat = 128 + r % 64 := by omega
    rw [e1, e2, e3, e4]

/-- What no operation can say. -/
def badC (c : C5) : Prop := c.1 ≠ -1 ∧ (¬ isScal c.1 ∨ c.2.1 ≠ ⟨#[]⟩ ∨ c.2.2.1 ≠ z0)
instance (z : Int) : Decidable (isScal z) := by unfold isScal; infer_instance
instance (c : C5) : Decidable (badC c) := by unfold badC; infer_instance
/-- The error's number of a cell. -/
def celE (c : C5) : Nat := if badC c then 5 else opE (opOf c)
theorem opOf_k (c : C5) : (opOf c).k = if c.1 = -1 then 2 else 1 := by unfold opOf; split <;> rfl
theorem opOf_A (c : C5) : (opOf c).A = c.2.2.2 := by unfold opOf; split <;> rfl
theorem opOf_c (c : C5) : (opOf c).c = 0 := by unfold opOf; split <;> rfl
theorem scal_of {z : Int} (h : isScal z) : ∃ r : Nat, z = (r : Int) ∧ scal r := by
  unfold isScal at h
  refine ⟨z.toNat, by omega, ?_⟩
  unfold scal; omega
/-- A scalar's operation. -/
theorem opOf_scal {r : Nat} (h : scal r) (A : List A2) : opOf ((r : Int), ⟨#[]⟩, z0, A) = ⟨1, ⟨(enc r).toArray⟩, z0, 0, A⟩ := by
  unfold opOf
  rw [if_neg (by simp only; omega)]
  simp
theorem enc_size {r : Nat} (h : scal r) : (⟨(enc r).toArray⟩ : ByteArray).size = (enc r).length := by simp [ByteArray.size]
theorem enc_brk {r : Nat} (h : scal r) : brk (⟨(enc r).toArray⟩ : ByteArray).data.toList = (⟨(enc r).toArray⟩ : ByteArray).size := by
  obtain ⟨s1, s2⟩ := scs_of (rs := [r]) (fun x hx => by rw [List.mem_singleton.1 hx]; exact h)
  have e2 : encs [r] = enc r := by simp [encs]
  rw [e2] at s1 s2
  show brk (enc r) = _
  rw [s2, enc_size h]
theorem enc_scs {r : Nat} (h : scal r) : scs (⟨(enc r).toArray⟩ : ByteArray).data.toList = [r] := by
  obtain ⟨s1, s2⟩ := scs_of (rs := [r]) (fun x hx => by rw [List.mem_singleton.1 hx]; exact h)
  have e2 : encs [r] = enc r := by simp [encs]
  rw [e2] at s1
  exact s1
theorem opE_scal {r : Nat} (h : scal r) (A : List A2) : opE ⟨1, ⟨(enc r).toArray⟩, z0, 0, A⟩ = listE false none A := by
  have hp := enc_pos h
  have hne : (⟨(enc r).toArray⟩ : ByteArray).toList.isEmpty = false := size_isEmp (by rw [enc_size h]; exact hp.1)
  have hb := enc_brk h
  unfold opE
  rw [if_pos (Or.inl rfl)]
  unfold insE
  have hf : fldE ⟨1, ⟨(enc r).toArray⟩, z0, 0, A⟩ = 0 := by
    unfold fldE
    rw [if_neg (by simp), if_neg (by simp only; rintro (h | ⟨_, h | h⟩); exact absurd rfl h; (rw [hne] at h; cases h); exact h rfl), if_neg (by simp)]
  rw [hf]
  simp only [ne_eq, not_true_eq_false, if_false]
  rw [if_neg (by simpa using hb), if_neg (by simp [chk_z0])]
theorem opE_le9 (o : Op5) : opE o ≤ 19 := by
  have h1 := insE_le19 o
  have h2 := listE_le' true o.A none
  have h3 : cntE o ≤ 19 := by unfold cntE; split <;> (try split) <;> omega
  unfold opE
  split
  · exact h1
  · split
    · split <;> omega
    · split
      · split <;> omega
      · omega
theorem celE_bad {c : C5} (h : badC c) : celE c = 5 := if_pos h
theorem celE_op {c : C5} (h : ¬ badC c) : celE c = opE (opOf c) := if_neg h
theorem celE_le (c : C5) : celE c ≤ 19 := by
  unfold celE
  split
  · decide
  · have := opE_le9 (opOf c); omega
/-- Good cells are those without an error. -/
theorem good_iff {c : C5} : celE c = 0 ↔ GoodC c := by
  obtain ⟨k, t, v, A⟩ := c
  by_cases hb : badC (k, t, v, A)
  · rw [celE_bad hb]
    refine ⟨fun h => (by cases h), fun h => ?_⟩
    obtain ⟨h1, h2⟩ := hb
    rcases h.1 with ⟨h3, _⟩ | ⟨r, h3, h4, h5, h6⟩
    · exact absurd h3 h1
    · simp only at h3 h5 h6
      rcases h2 with h2 | h2 | h2
      · exfalso; apply h2; simp only [h3]; unfold isScal; unfold scal at h4; omega
      · exact absurd h5 h2
      · exact absurd h6 h2
  · rw [celE_op hb]
    by_cases hk : k = -1
    · subst hk
      have e : opOf (-1, t, v, A) = ⟨2, t, v, 0, A⟩ := rfl
      rw [e]
      constructor
      · intro h
        have hi := ins_of (o := ⟨2, t, v, 0, A⟩) (by unfold opE at h; rwa [if_pos (Or.inr rfl)] at h)
        exact ⟨Or.inl ⟨rfl, hi.full, (hi.kind.resolve_left (by simp)).2, hi.utf, hi.val⟩, hi.set⟩
      · rintro ⟨h, hs⟩
        rcases h with ⟨_, h1, h2, h3, h4⟩ | ⟨r, h1, _⟩
        · exact opE_12 ⟨Or.inr ⟨rfl, h2⟩, h1, rfl, h3, h4, hs⟩ (Or.inr rfl)
        · simp only at h1; omega
    · have h1 : isScal k ∧ t = ⟨#[]⟩ ∧ v = z0 := by
        unfold badC at hb
        simp only [ne_eq, not_and, not_or, Decidable.not_not] at hb
        exact hb hk
      obtain ⟨h1, rfl, rfl⟩ := h1
      obtain ⟨r, rfl, hr⟩ := scal_of h1
      rw [opOf_scal hr, opE_scal hr]
      constructor
      · intro h; exact ⟨Or.inr ⟨r, rfl, hr, rfl, rfl⟩, h⟩
      · intro h; exact h.2
end Go.Proofs.YthfpmhnnjjikcaaGreatDoor

/- cells.Like, cells.Same; vellumref09.Like, vellumref09.Same. -/
namespace Go.Proofs.YthfpmhnnjjikcaaGreatDoor
open Go Go.RowKit Go.Lib
set_option linter.unusedVariables false

abbrev ceA (e : C5) (s : Value) : Array Value := #[.int .i32 e.1, .string e.2.1, .int .i64 e.2.2.1.1, .int .i64 e.2.2.1.2.1, .string e.2.2.1.2.2, s]
abbrev ceP (e : C5) (s : Value) : Value := .agg (ceA e s)
/-- A cell's content. -/
def lk (e : C5) : Int × ByteArray × P3 := (e.1, e.2.1, e.2.2.1)
theorem lk_ext {e e' : C5} (h : lk e = lk e') (hA : e.2.2.2 = e'.2.2.2) : e = e' := by
  obtain ⟨k, t, v, A⟩ := e
  obtain ⟨k', t', v', A'⟩ := e'
  unfold lk at h
  simp only [Prod.mk.injEq] at h hA ⊢
  exact ⟨h.1, h.2.1, h.2.2, hA⟩
abbrev bc2 (w : World) (e e' : C5) (s s' : Value) : World := (w.alloc (.cells (ceA e s) 84)).alloc (.cells (ceA e' s') 84)
theorem bc2_below (w : World) (e e' : C5) (s s' : Value) : Below w.heap.size w (bc2 w e e' s s') := ((Below.refl w.heap.size w).alloc (Nat.le_refl _) _).alloc (by simp) _
theorem bc2_5 (w : World) (e e' : C5) (s s' : Value) {w2 : World} (hb : Below (bc2 w e e' s s').heap.size (bc2 w e e' s s') w2) : w2.cell? ⟨w.heap.size, 5, none⟩ = some s ∧ w2.cell? ⟨w.heap.size + 1, 5, none⟩ = some s' :=
  ⟨(hb.cell (p := ⟨w.heap.size, 5, none⟩) (by simp; omega)).trans (by simp), (hb.cell (p := ⟨w.heap.size + 1, 5, none⟩) (by simp)).trans (by simp)⟩
set_option maxHeartbeats 1000000 in
theorem likeR9_any (e e' : C5) (s s' : Value) (w : World) (hs : ∃ p l c, s = .slice p l c) (hs' : ∃ p l c, s' = .slice p l c) :
    Calls Tryz.prog 90 #[ceP e s, ceP e' s'] w fun r w' => r = .returned (.bool (decide (lk e = lk e'))) ∧ Below w.heap.size w w' := by
  have b0 := ((Below.refl w.heap.size w).alloc (Nat.le_refl _) (.cells (ceA e s) 84)).alloc (by simp) (.cells (ceA e' s') 84)
  obtain ⟨p, l, c, rfl⟩ := hs
  obtain ⟨p', l', c', rfl⟩ := hs'
  obtain ⟨k, t, ⟨x, n, u⟩, A⟩ := e
  obtain ⟨k', t', ⟨x', n', u'⟩, A'⟩ := e'
  simp only [ceA] at b0
  have gd := fun op e e' w => guard_pl op e e' (x, n, u) (x', n', u') w
  by_cases hk : k = k'
  · subst hk
    by_cases ht : t = t'
    · subst ht
      have q1 := beq_key (x := t) (y := t) true (decide_eq_true rfl)
      by_cases hv : ((x, n, u) : P3) = (x', n', u')
      · have hne := eql_pl (x, n, u) (x', n', u') true (by rw [hv, samP_self])
        rw [decide_eq_true (show lk (k, t, (x, n, u), A) = lk (k, t, (x', n', u'), A') by unfold lk; simp only [hv])]
        clear hv
        go_enter Tryz.func90, Tryz.ntmps90
        go_wp2
        go_ret
        exact ⟨rfl, b0⟩
      · have hne := eql_pl (x, n, u) (x', n', u') false (samP_ne hv)
        rw [decide_eq_false (by intro h; exact hv (congrArg (fun z : Int × ByteArray × P3 => z.2.2) h))]
        clear hv
        go_enter Tryz.func90, Tryz.ntmps90
        go_wp2
        go_ret
        exact ⟨rfl, b0⟩
    · rw [decide_eq_false (by intro h; exact ht (congrArg (fun z : Int × ByteArray × P3 => z.2.1) h))]
      have q1 := beq_key (x := t) (y := t') false (decide_eq_false ht)
      clear ht gd
      go_enter Tryz.func90, Tryz.ntmps90
      go_wp2
      go_ret
      exact ⟨rfl, b0⟩
  · rw [decide_eq_false (by intro h; exact hk (congrArg (fun z : Int × ByteArray × P3 => z.1) h))]
    have hkk : (k == k') = false := by simpa using hk
    clear hk gd
    go_enter Tryz.func90, Tryz.ntmps90
    go_wp2
    go_ret
    exact ⟨rfl, b0⟩
set_option maxHeartbeats 1000000 in
theorem sameR9_any (e e' : C5) (s s' : Value) (w : World) (hA : RowA w s e.2.2.2) (hB : RowA w s' e'.2.2.2) (hl : e.2.2.2.length ≤ 4194304) (hl2 : e'.2.2.2.length ≤ 4194304) :
    Calls Tryz.prog 40 #[ceP e s, ceP e' s'] w fun r w' => r = .returned (.bool (decide (e = e'))) ∧ Below w.heap.size w w' := by
  have b0 := bc2_below w e e' s s'
  obtain ⟨p, c, hv, _⟩ := hA.val
  obtain ⟨p', c', hv', _⟩ := hB.val
  have cL := likeR9_any e e' s s' (bc2 w e e' s s') ⟨_, _, _, hv⟩ ⟨_, _, _, hv'⟩
  have H5 : Hid (∀ w2, Below (bc2 w e e' s s').heap.size (bc2 w e e' s s') w2 → w2.cell? ⟨w.heap.size, 5, none⟩ = some s ∧ w2.cell? ⟨w.heap.size + 1, 5, none⟩ = some s') := fun w2 hb => bc2_5 w e e' s s' hb
  have cS : Hid (∀ W, Below w.heap.size w W → Calls Tryz.prog 91 #[s, s'] W fun r w' => r = .returned (.bool (decide (e.2.2.2 = e'.2.2.2))) ∧ Below w.heap.size w w') := fun W hW => from_below hW (refSame_any s s' e.2.2.2 e'.2.2.2 W (hA.below hW) (hB.below hW) (by omega) (by omega))
  subst hv
  subst hv'
  by_cases hk : lk e = lk e'
  · rw [decide_eq_true hk] at cL
    have hd : decide (e = e') = decide (e.2.2.2 = e'.2.2.2) := decide_eq_decide.2 ⟨fun h => by rw [h], fun h => lk_ext hk h⟩
    rw [hd]
    generalize decide (e.2.2.2 = e'.2.2.2) = R at cS ⊢
    clear hA hB hk hd
    obtain ⟨k, t, ⟨x, n, u⟩, A⟩ := e
    obtain ⟨k', t', ⟨x', n', u'⟩, A'⟩ := e'
    simp only at b0 cL cS H5
    go_enter Tryz.func40, Tryz.ntmps40
    go_wp2_with fail
    refine cL.mono ?_; rintro r w2 ⟨rfl, hb2⟩
    obtain ⟨a5, b5⟩ := H5.out w2 hb2
    have b2 := b0.trans (hb2.mono b0.size)
    have c2 := cS.out w2 b2
    clear cL cS H5 hb2
    go_wp2_with fail
    refine c2.mono ?_; rintro r w3 ⟨rfl, hb3⟩
    go_wp2
    go_ret
    exact ⟨rfl, hb3⟩
  · rw [decide_eq_false hk] at cL
    rw [decide_eq_false (fun h => hk (by rw [h]))]
    clear hA hB hk cS H5
    obtain ⟨k, t, ⟨x, n, u⟩, A⟩ := e
    obtain ⟨k', t', ⟨x', n', u'⟩, A'⟩ := e'
    simp only at b0 cL
    go_enter Tryz.func40, Tryz.ntmps40
    go_wp2_with fail
    refine cL.mono ?_; rintro r w2 ⟨rfl, hb2⟩
    have b2 := b0.trans (hb2.mono b0.size)
    clear cL hb2
    go_wp2
    go_ret
    exact ⟨rfl, b2⟩
end Go.Proofs.YthfpmhnnjjikcaaGreatDoor

/- What cellsOf's function hands over, for whatever loop body: the cells of a text. -/
namespace Go.Proofs.YthfpmhnnjjikcaaGreatDoor
open Go Go.RowKit Go.Lib Go.Shelf
set_option linter.unusedVariables false
attribute [local go_sem] Oper.semAt_some

/-- A cell that is handed over, the blocks among which its list lies. -/
abbrev CZ : Type := CV × Nat × Nat
abbrev encC9 (x : CZ) : Array Value := #[ceV x.1]
def GC9 (L : List C5) (B0 : Nat) (pre : List CZ) (x : CZ) (W : World) : Prop := ∃ e, L[pre.length]? = some e ∧ x.1.1 = e.1 ∧ x.1.2.1 = e.2.1 ∧ x.1.2.2.1 = e.2.2.1 ∧ InA W x.2.1 x.2.2 (slV x.1.2.2.2) e.2.2.2 ∧ B0 ≤ x.2.1 ∧ x.2.2 ≤ W.heap.size ∧ ∀ y ∈ pre, y.2.2 ≤ x.2.1
/-- What a round keeps. -/
structure KC9 (pre : List CZ) (x : CZ) (A A' : World) : Prop where
  size : A.heap.size ≤ A'.heap.size
  own : ∀ (k : Nat) (cs : Array Value) (t : TypeId), A.heap[k]? = some (.cells cs t (0, 0)) → (t = 188 ∨ t = 192) → A'.heap[k]? = some (.cells cs t (0, 0))
  ite : ∀ (k : Nat) (t : ByteArray) (p : Nat), A.heap[k]? = some (.stringIter t p) → A'.heap[k]? = some (.stringIter t p)
  att : ∀ (k : Nat) (cs : Array Value), A.heap[k]? = some (.cells cs 163 (0, 0)) → (k < x.2.1 ∨ x.2.2 ≤ k) → A'.heap[k]? = some (.cells cs 163 (0, 0))
theorem GC9.bk {L : List C5} {B0 B C : Nat} {pre : List CZ} {x : CZ} {A A' : World} (h : GC9 L B0 pre x A) (k : Bk9 B C A A') : GC9 L B0 pre x A' := by
  obtain ⟨e, h1, h2, h3, h4, h5, h6, h7, h8⟩ := h
  exact ⟨e, h1, h2, h3, h4, ina_same h5 fun j cs hj _ _ => k.cells hj, h6, Nat.le_trans h7 k.size, h8⟩
theorem KC9.bk {B Z : Nat} {pre : List CZ} {x : CZ} {A A' C C' : World} (k1 : Bk9 B Z A A') (h : KC9 pre x A' C) (k2 : Bk9 B Z C C') : KC9 pre x A C' :=
  ⟨Nat.le_trans k1.size (Nat.le_trans h.size k2.size), fun k cs t hk ht => k2.cells (h.own k cs t (k1.cells hk) ht), fun k t p hk => k2.ite (h.ite k t p (k1.ite hk)), fun k cs hk ho => k2.cells (h.att k cs (k1.cells hk) ho)⟩
theorem it9_iterAt {T : TypeId → Prop} {B K : Nat} {W : World} {t : ByteArray} {p : Nat} (p2 : Nat) (hB : B ≤ K) (hk : W.heap[K]? = some (.stringIter t p)) : It9 T B W (W.iterAt K t p2) :=
  ⟨rfl, rfl, rfl, by simp [World.iterAt], fun k o ho hc => by
    have hne : k ≠ K := fun e => by
      subst e; rw [hk] at ho; cases ho
      rcases hc with hc | ⟨_, hc⟩
      · omega
      · exact hc ⟨_, _, rfl⟩
    simpa [World.iterAt, Ne.symm hne] using ho⟩

theorem cellsOf_call (u : TypeId) (y : Value) (w : World) :
    Calls Tryz.prog 116 #[.iface u y] w fun r w' => r = .returned (.func (.func 133) #[] #[.pointer (some ⟨w.heap.size, 0, none⟩)]) ∧ w'.cell? ⟨w.heap.size, 0, none⟩ = some (.iface u y) ∧ Below w.heap.size w w' := by
  have bA : Below w.heap.size w (w.alloc (.cells #[.iface u y] 56)) := (Below.refl _ _).alloc (Nat.le_refl _) _
  go_enter Tryz.func116, Tryz.ntmps116
  go_wp2
  go_ret
  exact ⟨rfl, by simp, bA⟩

set_option maxHeartbeats 4000000 in
set_option maxRecDepth 100000 in
theorem text9_seq (e : Op5) (s : Value) (w0 : World) (x lo hi : Nat) (hk1 : e.k = 1) (hx : w0.cell? ⟨x, 0, none⟩ = some (pieceQ e s)) (hR : InA w0 lo hi s e.A) (hh : hi ≤ w0.heap.size) (hu : brk e.t.data.toList = e.t.size) (hn2 : e.A.length ≤ 2097152) (n : Nat) (hn : 2 ≤ n) :
    SeqG9 Fence.wide n Tryz.prog 133 #[.pointer (some ⟨x, 0, none⟩)] encC9 (fun _ => False) (GC9 (mkC e.A (scs e.t.data.toList)) w0.heap.size) (fun _ => KC9) (fun xs => xs.length = (scs e.t.data.toList).length) w0 := fun l J Jx W hW hJ hJx hY h0 => by
  obtain ⟨h1, h2, h3⟩ := valid_text e.t hu
  obtain ⟨p, c, rfl⟩ := own_slice hR.own
  rw [pieceQ_1 hk1] at hx
  obtain ⟨k, t, vv, cc, A⟩ := e
  simp only at hk1 hx hR hu hn2 h1 h2 h3 ⊢
  have HY : Hid (∀ pre x W1, J pre W1 → GC9 (mkC A (scs t.data.toList)) w0.heap.size pre x W1 → YieldAt Fence.wide (n - 1) Tryz.prog l (encC9 x) W1 fun e W' =>
      (e = .returned (.bool true) ∧ J (pre ++ [x]) W' ∧ KC9 pre x W1 W') ∨ (e = .returned (.bool false) ∧ Jx (pre ++ [x]) W')) := fun pre x W1 a b => yieldAt_mono (hY pre x W1 a b) fun e w' h => h.imp (fun h => ⟨h.1, h.2.1, h.2.2.1⟩) (fun h => ⟨h.1, h.2.1⟩)
  obtain ⟨rs, hrs⟩ : ∃ rs, scs t.data.toList = rs := ⟨_, rfl⟩
  rw [hrs] at h1 h2 h3 HY hx ⊢
  obtain ⟨m, hm⟩ : ∃ m, rs.length = m := ⟨_, rfl⟩
  rw [hm] at h3 hx ⊢
  have HM : Hid (rs.length = m ∧ t.data.toList = encs rs ∧ (∀ r ∈ rs, scal r)) := ⟨hm, h2, h1⟩
  have c0 : W.cell? ⟨x, 0, none⟩ = some (.iface 188 (.agg #[.slice p A.length c, .string t, .int .i64 m])) := (hW.cell (lt_of_cell hx)).trans hx
  have hz0 : w0.heap.size ≤ W.heap.size := hW.size
  have HJ : Hid (∀ q W1 W2, J q W1 → Tr7 (fun _ => False) W.heap.size W1 W2 → J q W2) := hJ
  have HA : Hid (InA W lo hi (.slice p A.length c) A ∧ hi ≤ W.heap.size ∧ A.length ≤ 2097152) := ⟨hR.below hW, by omega, hn2⟩
  have HH0 : Hid (hi ≤ w0.heap.size ∧ w0.heap.size ≤ W.heap.size) := ⟨hh, hz0⟩
  have HN : Hid (2 ≤ n) := hn
  have as1 := as_i_i
  have hJ0 := h0
  clear hY hJ hJx hx hR hW hrs hm h1 h2 hu hn2 hk1 hz0 hh hn h0
  refine callsIn_of_wp Tryz.func133 rfl trivial ?_ rfl
  simp only [Tryz.ntmps133, List.size_toArray, List.length_cons, List.length_nil, Nat.reduceAdd, Nat.reduceSub, Array.replicate_succ, Array.replicate_zero, List.push_toArray, List.append_toArray, List.nil_append, List.cons_append]
  gi_wp2
  have bI : Below W.heap.size W (W.alloc (.cells #[.slice p A.length c, .string t, .int .i64 m] 188)) := (Below.refl _ _).alloc (Nat.le_refl _) _
  have bi : Below W.heap.size W ((W.alloc (.cells #[.slice p A.length c, .string t, .int .i64 m] 188)).iter t 0) := bI.trans (((Below.refl _ _).alloc (Nat.le_refl _) _ : Below (W.alloc (.cells #[.slice p A.length c, .string t, .int .i64 m] 188)).heap.size _ ((W.alloc (.cells #[.slice p A.length c, .string t, .int .i64 m] 188)).iter t 0)).mono bI.size)
  have hI0 : ((W.alloc (.cells #[.slice p A.length c, .string t, .int .i64 m] 188)).iter t 0).heap[W.heap.size]? = some (.cells #[.slice p A.length c, .string t, .int .i64 m] 188 (0, 0)) := heap_below ((Below.refl _ _).alloc (Nat.le_refl _) _) (heap_alloc_new W _)
  have hK0 : ((W.alloc (.cells #[.slice p A.length c, .string t, .int .i64 m] 188)).iter t 0).heap[W.heap.size + 1]? = some (.stringIter t 0) := by
    have := World.iter_heap (W.alloc (.cells #[.slice p A.length c, .string t, .int .i64 m] 188)) t 0
    rwa [World.size_alloc] at this
  obtain ⟨wi, hwi⟩ : ∃ wi, wi = (W.alloc (.cells #[.slice p A.length c, .string t, .int .i64 m] 188)).iter t 0 := ⟨_, rfl⟩
  rw [← hwi] at bi hI0 hK0 ⊢
  have HS : Hid (J [] wi ∧ wi.heap[W.heap.size]? = some (.cells #[.slice p A.length c, .string t, .int .i64 m] 188 (0, 0)) ∧ wi.heap[W.heap.size + 1]? = some (.stringIter t (pos rs 0)) ∧ InA wi lo hi (.slice p A.length c) A ∧ ∀ y ∈ ([] : List CZ), y.2.2 ≤ wi.heap.size) := ⟨HJ.out _ _ _ hJ0 (Tr7.of_below bi), hI0, hK0, HA.out.1.below bi, fun y hy => by cases hy⟩
  clear bI bi hI0 hK0 hwi hJ0 c0 as1
  gi_loopw [5] (fun _ wr => ∃ (k : Nat) (xs : List CZ), k ≤ m ∧ xs.length = k ∧ Hid (J xs wr ∧ wr.heap[W.heap.size]? = some (.cells #[.slice p A.length c, .string t, .int .i64 m] 188 (0, 0)) ∧ wr.heap[W.heap.size + 1]? = some (.stringIter t (pos rs k)) ∧ InA wr lo hi (.slice p A.length c) A ∧ ∀ y ∈ xs, y.2.2 ≤ wr.heap.size)) (fun _ wr => t.size - wr.iterPos (W.heap.size + 1))
  case atStart => exact ⟨0, [], Nat.zero_le _, rfl, HS.out⟩
  case round =>
    clear HS
    obtain ⟨k, xs, hk, hxs, H⟩ := hrel
    by_cases hlt : k < m
    · obtain ⟨hJk, hIk, hit, hin, hasc⟩ := H.out
      obtain ⟨hd, hp⟩ := decode_pos t rs HM.out.2.1 HM.out.2.2 k (by rw [HM.out.1]; exact hlt)
      have hps := pos_succ rs k (by rw [HM.out.1]; exact hlt)
      have hpl := enc_pos (HM.out.2.2 _ (List.getElem_mem (show k < rs.length by rw [HM.out.1]; exact hlt)))
      have hget : (mkC A rs)[k]? = some (((rs[k]'(by rw [HM.out.1]; exact hlt) : Nat) : Int), ⟨#[]⟩, z0, A) := by
        unfold mkC
        rw [List.getElem?_map, List.getElem?_eq_getElem (by rw [HM.out.1]; exact hlt)]
        rfl
      obtain ⟨R, hRR⟩ : ∃ R, rs[k]'(by rw [HM.out.1]; exact hlt) = R := ⟨_, rfl⟩
      rw [hRR] at hd hps hpl hget
      have hnx : ∀ ty, (Instr.next (.pointer (some ⟨W.heap.size + 1, 0, none⟩)) true ty).run Tryz.prog wr = .ok (.tuple #[.bool true, .int .i64 (pos rs k), .int .i32 R]) (wr.iterAt (W.heap.size + 1) t (pos rs (k + 1))) := fun ty => by
        have := run_next_any_at (P := Tryz.prog) wr (W.heap.size + 1) t (pos rs k) ty hit hp
        rw [hd] at this
        rw [this, hps]
      obtain ⟨P, hP⟩ : ∃ P, pos rs k = P := ⟨_, rfl⟩
      obtain ⟨P2, hP2⟩ : ∃ P, pos rs (k + 1) = P := ⟨_, rfl⟩
      have HQ : Hid (pos rs (k + 1) = P2 ∧ P < P2 ∧ P < t.size ∧ xs.length = k ∧ wr.iterPos (W.heap.size + 1) = P ∧ (mkC A rs)[k]? = some ((R : Int), ⟨#[]⟩, z0, A)) := ⟨hP2, by omega, by omega, hxs, by simp [World.iterPos, hit, hP], hget⟩
      rw [hP] at hnx hit
      rw [hP2] at hnx
      have hI1 : (wr.iterAt (W.heap.size + 1) t P2).heap[W.heap.size]? = some (.cells #[.slice p A.length c, .string t, .int .i64 m] 188 (0, 0)) := by
        simpa [World.iterAt] using hIk
      have hit1 := iterAt_heap wr (W.heap.size + 1) t P P2 hit
      have hJ1 := HJ.out _ _ _ hJk ((it9_iterAt P2 (Nat.le_succ _) hit).tr (Nat.le_refl _))
      have hin1 : InA (wr.iterAt (W.heap.size + 1) t P2) lo hi (.slice p A.length c) A := ina_same hin fun b cs hb _ _ => (keepA_iterAt hit P2 b cs hb).trans hb
      obtain ⟨W1, hW1⟩ : ∃ W1, W1 = wr.iterAt (W.heap.size + 1) t P2 := ⟨_, rfl⟩
      rw [← hW1] at hI1 hit1 hJ1 hin1 hnx
      have cA := attributes_any _ A W1 (own_rowA hin1.own) (own_nil hin1.own) HA.out.2.2
      have i0 : W1.cell? ⟨W.heap.size, 0, none⟩ = some (.slice p A.length c) := by rw [cell_of_heap hI1]; rfl
      have hz1 : W1.heap.size = wr.heap.size := by rw [hW1]; simp [World.iterAt]
      have H1 : Hid (J xs W1 ∧ W1.heap[W.heap.size]? = some (.cells #[.slice p A.length c, .string t, .int .i64 m] 188 (0, 0)) ∧ W1.heap[W.heap.size + 1]? = some (.stringIter t P2) ∧ InA W1 lo hi (.slice p A.length c) A ∧ ∀ y ∈ xs, y.2.2 ≤ W1.heap.size) := ⟨hJ1, hI1, hit1, hin1, fun y hy => by rw [hz1]; exact hasc y hy⟩
      clear H hJk hIk hit hin hd hp hps hpl hget hRR hP hP2 hI1 hit1 hJ1 hin1 hW1 hxs hz1 hasc
      gi_wp2
      refine ⟨trivial, (fun _ => Nat.le_trans (by decide) HN.out), (callsIn_wide.2 cA).mono ?_⟩
      rintro r w5 ⟨v5, rfl, own5, hb5⟩
      obtain ⟨p5, c5, rfl⟩ := own_slice own5
      have hYk := HY.out xs (((R : Int), ⟨#[]⟩, z0, p5, A.length, c5), W1.heap.size, w5.heap.size) w5 (HJ.out _ _ _ H1.out.1 (Tr7.of_below hb5)) ⟨_, by rw [HQ.out.2.2.2.1]; exact HQ.out.2.2.2.2.2, rfl, rfl, rfl, InA.new own5, by
        have h1 := (Array.getElem?_eq_some_iff.1 H1.out.2.1).1
        have h2 := HH0.out.2
        show w0.heap.size ≤ W1.heap.size
        omega, Nat.le_refl _, fun y hy => H1.out.2.2.2.2 y hy⟩
      have H5 : Hid (w5.heap[W.heap.size]? = some (.cells #[.slice p A.length c, .string t, .int .i64 m] 188 (0, 0)) ∧ w5.heap[W.heap.size + 1]? = some (.stringIter t P2) ∧ InA w5 lo hi (.slice p A.length c) A ∧ W.heap.size ≤ W1.heap.size ∧ ∀ y ∈ xs ++ [(((R : Int), ⟨#[]⟩, z0, p5, A.length, c5), W1.heap.size, w5.heap.size)], y.2.2 ≤ w5.heap.size) := ⟨heap_below hb5 H1.out.2.1, heap_below hb5 H1.out.2.2.1, H1.out.2.2.2.1.below hb5, by have h1 := (Array.getElem?_eq_some_iff.1 H1.out.2.1).1; omega, fun y hy => by
        rcases List.mem_append.1 hy with hy | hy
        · exact Nat.le_trans (H1.out.2.2.2.2 y hy) hb5.size
        · rw [List.mem_singleton.1 hy]; exact Nat.le_refl _⟩
      simp only [encC9, ceV, slV, z0] at hYk
      obtain ⟨fn, tm, asg, bo, hy, hR⟩ := hYk
      clear cA own5 hb5 H1 hnx i0
      gi_wp2
      refine ⟨(fun _ => Nat.le_trans (by decide) HN.out), hR.mono ?_⟩
      rintro e' W3 (⟨rfl, hJ3, hk3⟩ | ⟨rfl, hJx3⟩)
      · have H3 : Hid (W3.heap[W.heap.size]? = some (.cells #[.slice p A.length c, .string t, .int .i64 m] 188 (0, 0)) ∧ W3.heap[W.heap.size + 1]? = some (.stringIter t P2) ∧ InA W3 lo hi (.slice p A.length c) A ∧ ∀ y ∈ xs ++ [(((R : Int), ⟨#[]⟩, z0, p5, A.length, c5), W1.heap.size, w5.heap.size)], y.2.2 ≤ W3.heap.size) := ⟨hk3.own _ _ _ H5.out.1 (.inl rfl), hk3.ite _ _ _ H5.out.2.1, ina_same H5.out.2.2.1 fun b cs hb _ hlt => hk3.att b cs hb (.inl (by have := H5.out.2.2.2.1; have := HA.out.2.1; show b < W1.heap.size; omega)), fun y hy => Nat.le_trans (H5.out.2.2.2.2 y hy) hk3.size⟩
        have HJ3 : Hid (J (xs ++ [(((R : Int), ⟨#[]⟩, z0, p5, A.length, c5), W1.heap.size, w5.heap.size)]) W3) := hJ3
        clear hk3 hJ3 hR hy H5
        gi_wp2
        go_roundw
        case rel => exact ⟨k + 1, _, by omega, by rw [List.length_append, HQ.out.2.2.2.1]; rfl, HJ3.out, H3.out.1, by rw [HQ.out.1]; exact H3.out.2.1, H3.out.2.2⟩
        case measure =>
          have h1 : W3.iterPos (W.heap.size + 1) = P2 := by simp [World.iterPos, H3.out.2.1]
          have h2 := HQ.out
          rw [h1]
          omega
      · gi_wp2
        refine bodyPost_ret (results_none rfl _ _ _) rfl ?_
        exact ⟨⟨_, rfl⟩, .inr ⟨_, hJx3⟩⟩
    · have he : k = m := by omega
      obtain ⟨hJk, hIk, hit, hin, -⟩ := H.out
      have hpe : ¬ pos rs k < t.size := by
        rw [he, ← HM.out.1, pos_all, ← HM.out.2.1, size_toList]; omega
      have hnx : ∀ ty, (Instr.next (.pointer (some ⟨W.heap.size + 1, 0, none⟩)) true ty).run Tryz.prog wr = _ := fun ty => run_next_end_at wr (W.heap.size + 1) t _ ty hit hpe
      clear H hIk hin hpe hit
      gi_wp2
      go_end0
      exact ⟨⟨_, rfl⟩, .inl ⟨xs, by omega, hJk⟩⟩
end Go.Proofs.YthfpmhnnjjikcaaGreatDoor

/- What cellsOf's function hands over, for whatever loop body: the cell of an embed. -/
namespace Go.Proofs.YthfpmhnnjjikcaaGreatDoor
open Go Go.RowKit Go.Lib Go.Shelf
set_option linter.unusedVariables false
attribute [local go_sem] Oper.semAt_some

set_option maxHeartbeats 8000000 in
set_option maxRecDepth 100000 in
theorem emb9_seq (u : TypeId) (y : Value) (fp : FuncId) (za zb : Int) (zq : ByteArray) (hmet : ∀ W : World, (method 365 u y "Plain").run Tryz.prog W = .ok (fp, y) W) (hcf : ∀ W : World, (callFunc fp #[y]).run Tryz.prog W = .ok (.enter fp #[y]) W) (hPl : ∀ W, Calls Tryz.prog fp #[y] W fun r w' => r = .returned (.agg #[.int .i64 za, .int .i64 zb, .string zq]) ∧ Below W.heap.size W w') (t : ByteArray) (A : List A2) (p : Option Addr) (c : Nat) (w0 : World) (x lo hi : Nat) (hx : w0.cell? ⟨x, 0, none⟩ = some (.iface 192 (.agg #[.slice p A.length c, .string t, .iface u y]))) (hR : InA w0 lo hi (.slice p A.length c) A) (hh : hi ≤ w0.heap.size) (hn2 : A.length ≤ 2097152) (n : Nat) (hn : 2 ≤ n) :
    SeqG9 Fence.wide n Tryz.prog 133 #[.pointer (some ⟨x, 0, none⟩)] encC9 (fun _ => False) (GC9 [(-1, t, (za, zb, zq), A)] w0.heap.size) (fun _ => KC9) (fun xs => xs.length = 1) w0 := fun l J Jx W hW hJ hJx hY h0 => by
  have c0 : W.cell? ⟨x, 0, none⟩ = some (.iface 192 (.agg #[.slice p A.length c, .string t, .iface u y])) := (hW.cell (lt_of_cell hx)).trans hx
  have bI : Below W.heap.size W (W.alloc (.cells #[.slice p A.length c, .string t, .iface u y] 192)) := (Below.refl _ _).alloc (Nat.le_refl _) _
  have bd : Below W.heap.size W (W.alloc (.cells #[.slice p A.length c, .string t, .iface u y] 192)).drew := bI.drew
  have hE0 := heap_alloc_new W (.cells #[.slice p A.length c, .string t, .iface u y] 192)
  obtain ⟨W3, hW3⟩ : ∃ W3, W3 = W.alloc (.cells #[.slice p A.length c, .string t, .iface u y] 192) := ⟨_, rfl⟩
  rw [← hW3] at bI bd hE0
  have HV : Hid (∀ w', Below W3.drew.heap.size W3.drew w' → w'.cell? ⟨W.heap.size, 0, none⟩ = some (.slice p A.length c) ∧ w'.cell? ⟨W.heap.size, 1, none⟩ = some (.string t) ∧ w'.cell? ⟨W.heap.size, 2, none⟩ = some (.iface u y)) := fun w' hb => by
    have h := heap_below hb (show W3.drew.heap[W.heap.size]? = some _ from hE0)
    exact ⟨by rw [cell_of_heap h]; rfl, by rw [cell_of_heap h]; rfl, by rw [cell_of_heap h]; rfl⟩
  have HP : Hid (∀ w', Below W3.drew.heap.size W3.drew w' → Calls Tryz.prog fp #[y] w' fun r w4 => r = .returned (.agg #[.int .i64 za, .int .i64 zb, .string zq]) ∧ Below w'.heap.size w' w4 ∧ Below W3.drew.heap.size W3.drew w4) := fun w' hb => (hPl w').mono fun r w4 h => ⟨h.1, h.2, hb.trans (h.2.mono hb.size)⟩
  have HA : Hid (∀ w', Below W3.drew.heap.size W3.drew w' → Calls Tryz.prog 123 #[.agg #[.slice p A.length c]] w' fun r w4 => ∃ p5 c5, r = .returned (.slice p5 A.length c5) ∧ OwnA w4 W3.drew.heap.size (.slice p5 A.length c5) A ∧ Below w'.heap.size w' w4 ∧ Below W3.drew.heap.size W3.drew w4) := fun w' hb => by
    have hin := (hR.below hW).below (bd.trans (hb.mono bd.size))
    refine (attributes_any _ A w' (own_rowA hin.own) (own_nil hin.own) hn2).mono ?_
    rintro r w4 ⟨v5, rfl, own5, hb5⟩
    obtain ⟨p5, c5, rfl⟩ := own_slice own5
    exact ⟨p5, c5, rfl, own_weaken own5 hb.size, hb5, hb.trans (hb5.mono hb.size)⟩
  have HY : Hid (∀ w5 p5 c5, Below W3.drew.heap.size W3.drew w5 → OwnA w5 W3.drew.heap.size (.slice p5 A.length c5) A → YieldAt Fence.wide (n - 1) Tryz.prog l #[.agg #[.int .i32 (-1), .string t, .int .i64 za, .int .i64 zb, .string zq, .slice p5 A.length c5]] w5 fun e W' =>
      ∃ bb, e = .returned (.bool bb) ∧ ((∃ xs : List CZ, xs.length = 1 ∧ J xs W') ∨ ∃ pre, Jx pre W')) := fun w5 p5 c5 hb ho => by
    have := hY [] (((-1 : Int), t, (za, zb, zq), p5, A.length, c5), W3.drew.heap.size, w5.heap.size) w5 (hJ _ _ _ h0 (Tr7.of_below (bd.trans (hb.mono bd.size)))) ⟨_, rfl, rfl, rfl, rfl, InA.new ho, Nat.le_trans hW.size bd.size, Nat.le_refl _, fun y hy => by cases hy⟩
    obtain ⟨fn, tm, asg, bo, hy, hR⟩ := this
    exact ⟨fn, tm, asg, bo, hy, hR.mono fun e W' h => h.elim (fun h => ⟨true, h.1, .inl ⟨_, rfl, h.2.1⟩⟩) (fun h => ⟨false, h.1, .inr ⟨_, h.2.1⟩⟩)⟩
  have HN : Hid (2 ≤ n) := hn
  have as1 := as_e_i
  have hmix : Tryz.prog.follows .mixedOrders = true := by kernel_rfl
  have as2 := as_e_e
  clear hY hJ hJx hx hR hW hn2 hn h0 bd bI hE0 hh hPl
  refine callsIn_of_wp Tryz.func133 rfl trivial ?_ rfl
  simp only [Tryz.ntmps133, List.size_toArray, List.length_cons, List.length_nil, Nat.reduceAdd, Nat.reduceSub, Array.replicate_succ, Array.replicate_zero, List.push_toArray, List.append_toArray, List.nil_append, List.cons_append]
  gi_wp2
  rw [← hW3]
  clear hW3 c0 as1 as2
  have b0 : Below W3.drew.heap.size W3.drew W3.drew := Below.refl _ _
  obtain ⟨j0, j1, j2⟩ := HV.out _ b0
  gi_region_with_o (first
    | (go_simp; refine ⟨trivial, (fun _ => Nat.le_trans (by decide) HN.out), (callsIn_wide.2 (HP.out _ ?_)).mono ?_⟩; (· with_reducible assumption); rintro r w4 ⟨rfl, b4', b4⟩; obtain ⟨j0, j1, j2⟩ := HV.out _ b4; (try have own6 := owns_below own5 b4'))
    | (go_simp; refine ⟨trivial, (fun _ => Nat.le_trans (by decide) HN.out), (callsIn_wide.2 (HA.out _ ?_)).mono ?_⟩; (· with_reducible assumption); rintro r w5 ⟨p5, c5, rfl, own5, b5', b5⟩; obtain ⟨j0, j1, j2⟩ := HV.out _ b5)
    | (obtain ⟨fn, tm, asg, bo, hy, hR⟩ := HY.out _ p5 c5 (by with_reducible assumption) (by with_reducible first | exact own6 | exact own5); go_simp; refine ⟨(fun _ => Nat.le_trans (by decide) HN.out), hR.mono ?_⟩; rintro e' W4 ⟨bb, rfl, hq⟩))
  all_goals
    clear HV HP HA HY
    gi_wp2
    go_end0
    exact ⟨⟨_, rfl⟩, hq⟩
end Go.Proofs.YthfpmhnnjjikcaaGreatDoor

/- What cellsOf's function hands over, for whatever loop body: an insert's cells; cells.Each. -/
namespace Go.Proofs.YthfpmhnnjjikcaaGreatDoor
open Go Go.RowKit Go.Lib Go.Shelf
set_option linter.unusedVariables false

set_option maxHeartbeats 1000000 in
theorem one9_seq (e : Op5) (s : Value) (w0 : World) (x lo hi : Nat) (hO : Ins e) (hx : w0.cell? ⟨x, 0, none⟩ = some (pieceQ e s)) (hR : InA w0 lo hi s e.A) (hh : hi ≤ w0.heap.size) (hn2 : e.A.length ≤ 2097152) (n : Nat) (hn : 2 ≤ n) :
    SeqG9 Fence.wide n Tryz.prog 133 #[.pointer (some ⟨x, 0, none⟩)] encC9 (fun _ => False) (GC9 (cellsOf e) w0.heap.size) (fun _ => KC9) (fun xs => xs.length = (cellsOf e).length) w0 := by
  rcases hO.kind with ⟨h, _⟩ | ⟨h, _⟩
  · have hc : cellsOf e = mkC e.A (scs e.t.data.toList) := by unfold cellsOf; rw [if_pos h]
    have := text9_seq e s w0 x lo hi h hx hR hh hO.utf hn2 n hn
    rw [hc, mkC_len]
    exact this
  · have hc : cellsOf e = [(-1, e.t, e.v, e.A)] := by unfold cellsOf; rw [if_neg (by omega)]
    rw [hc]
    obtain ⟨p, c, rfl⟩ := own_slice hR.own
    rw [pieceQ_2 h] at hx
    obtain ⟨k, t, ⟨za, zb, zq⟩, cc, A⟩ := e
    simp only at hx hR hn2 ⊢
    rcases good_cases hO.val with ⟨h0, h1, h2⟩ | ⟨h0, h1, h2⟩ | ⟨h0, h1, h2⟩ | ⟨h0, h2⟩ | ⟨h0, h1, _⟩
    · simp only at h0 h1 h2; subst h0; subst h1; subst h2
      exact emb9_seq 230 (.agg #[]) 205 0 0 ⟨#[]⟩ (fun W => by kernel_rfl) (fun W => by kernel_rfl) (fun W => plain_n W) t A p c w0 x lo hi hx hR hh hn2 n hn
    · simp only at h0 h1 h2; subst h0; subst h1; subst h2
      exact emb9_seq 226 (.bool false) 199 1 0 ⟨#[]⟩ (fun W => by kernel_rfl) (fun W => by kernel_rfl) (fun W => plain_f false W) t A p c w0 x lo hi hx hR hh hn2 n hn
    · simp only at h0 h1 h2; subst h0; subst h1; subst h2
      exact emb9_seq 226 (.bool true) 199 1 1 ⟨#[]⟩ (fun W => by kernel_rfl) (fun W => by kernel_rfl) (fun W => plain_f true W) t A p c w0 x lo hi hx hR hh hn2 n hn
    · simp only at h0 h2; subst h0; subst h2
      exact emb9_seq 227 (.int .i64 zb) 201 2 zb ⟨#[]⟩ (fun W => by kernel_rfl) (fun W => by kernel_rfl) (fun W => plain_d zb W) t A p c w0 x lo hi hx hR hh hn2 n hn
    · simp only at h0 h1; subst h0; subst h1
      exact emb9_seq 228 (.string zq) 203 3 0 zq (fun W => by kernel_rfl) (fun W => by kernel_rfl) (fun W => plain_t zq W) t A p c w0 x lo hi hx hR hh hn2 n hn
theorem eachC_call {B1 B2 : Nat} (v : Value) (E : List Op5) (w : World) (h : DelV w B1 B2 v E) :
    Calls Tryz.prog 84 #[v] w fun r w' => ∃ x, r = .returned (.func (.func 115) #[] #[.pointer (some ⟨x, 0, none⟩)]) ∧ BoxD w' x B1 B2 E ∧ w.heap.size ≤ x ∧ Below w.heap.size w w' := by
  have bA : Below w.heap.size w (w.alloc (.cells #[v] 36)) := (Below.refl _ _).alloc (Nat.le_refl _) _
  have HD : Hid (DelV (w.alloc (.cells #[v] 36)) B1 B2 v E) := h.below bA
  obtain ⟨q, pv, PL, rfl, _⟩ := h
  go_enter Tryz.func84, Tryz.ntmps84
  go_wp2
  go_ret
  exact ⟨_, rfl, ⟨_, by simp, HD.out⟩, Nat.le_refl _, bA⟩
end Go.Proofs.YthfpmhnnjjikcaaGreatDoor

/- slices.Grow of nil, slices.Concat of two rows of pieces. -/
namespace Go.Proofs.YthfpmhnnjjikcaaGreatDoor
open Go Go.RowKit Go.Lib
set_option linter.unusedVariables false

/-- append(own, a row of pieces), whatever row. -/
theorem wpList_append_rowP {w : World} {ops : Array Oper} {rest : List Oper} {o : Oper} {a : Act} {Q : Exit → Act → World → Prop} (hgd : o.guard = none) (s x : Operand)
    (ho : o.op = .call { callee := .builtin .append, args := #[s, x], argTypes := #[96, 96] })
    (base : Nat) (v : Value) (P : List Value) (hs : a.eval s = v) (hown : OwnI w base v P)
    (xv : Value) (M : List Value) (B : Nat) (hx : a.eval x = xv) (hM : OwnI w B xv M) (h1 : ∀ u ∈ M, u.oneCell' = true)
    (h63 : P.length + M.length ≤ 8388608) (hbase : base ≤ w.heap.size)
    (h : ∀ v' w', OwnI w' base v' (P ++ M) → w.grownBy w' v.ownBlock → wpList Tryz.prog ops Q rest (a.put o.dst v') w') : wpList Tryz.prog ops Q (o :: rest) a w := by
  have hM' := hM
  rcases hM.2 with ⟨rfl, h0⟩ | ⟨g, cap, cur, rfl, -⟩
  · have hz : M = [] := List.eq_nil_of_length_eq_zero h0
    subst hz
    obtain ⟨i, z, hi, _⟩ := infoPi
    exact wpList_append_own_none hgd s x 96 ho base 56 i 1 Tryz.underlying96 hi v P.length P hs hown hx (h v w (by simpa using hown) ⟨rfl, rfl, rfl, Nat.le_refl _, fun _ _ _ => rfl⟩)
  · exact wpList_append_rowI hgd s x ho base v P hs hown g M.length cap M B hx hM' h1 h63 hbase h
end Go.Proofs.YthfpmhnnjjikcaaGreatDoor

/- measure: gathered: pieces of deltas put into one. -/
namespace Go.Proofs.YthfpmhnnjjikcaaGreatDoor
open Go Go.RowKit Go.Lib
set_option linter.unusedVariables false

/-- Do the lengths of all together keep the bound? -/
def Fits8 (E : List Op5) : Prop := sumB E ≤ 1099511627776 ∧ sumR E ≤ 1099511627776
theorem fits_front {E F : List Op5} (hw : ∀ o ∈ F, Wel o) (h : Fits8 (E ++ F)) : Fits8 E := by
  have := sums_nn hw
  unfold Fits8 at h ⊢
  rw [sumB_append, sumR_append] at h
  omega
set_option maxHeartbeats 4000000 in
set_option maxRecDepth 100000 in
theorem gath8_any {I : List Nat} {a : Nat → Addr} {B1 B2 : Nat} (v : Value) (PL : List Value) (E : List Op5) (w : World) (hI : ∀ i ∈ IxO, i ∈ I) (hS : Std I a w) (hv : OwnI w B1 v PL) (hp : PieD w B2 PL E) (hg : ∀ o ∈ E, opE o = 0) (hF : ∀ o ∈ E, FitA o) (hl : E.length ≤ 2097152) (ht : txtS E ≤ 8388608) :
    Calls Tryz.prog 119 #[v] w fun r w' => ∃ dv er, r = .returned (.tuple #[dv, er]) ∧ (Fits8 E → er = .nilIface ∧ DelV w' w.heap.size w.heap.size dv (canonL E)) ∧ (¬ Fits8 E → er = errV a 10 ∧ dv = .pointer none) ∧ Below w.heap.size w w' := by
  obtain ⟨p, cap, rfl, hrd⟩ := del_read (q := 0) hv hp
  have cN := new_any (B := w.heap.size) (D := fun k => k < w.heap.size) w (Nat.le_refl _) (by omega)
  have HR : Hid (∀ k, k < E.length → ∃ ga e s, p = some ⟨ga, 0, none⟩ ∧ E[k]? = some e ∧ w.cell? ⟨ga, k, none⟩ = some (pieceQ e s) ∧ OwnA w B2 s e.A) := hrd
  have HF : Hid ((∀ o ∈ E, opE o = 0) ∧ (∀ o ∈ E, FitA o) ∧ txtS E ≤ 8388608 ∧ ∀ o ∈ E, Wel o) := ⟨hg, hF, ht, fun o ho => wel_of (hg o ho)⟩
  have hfit := fitA_all hF ht
  have HK : Hid (∀ W (k : Nat) e v5, Below w.heap.size w W → E[k]? = some e → RN W v5 e.A → (∃ p c, v5 = .slice p e.A.length c) → ∀ g F, Gath W w.heap.size (fun k => k < w.heap.size) g F → (OkE F → (1099511627776 < sumB F + baseO e ∨ 1099511627776 < sumR F + resO e) → Calls Tryz.prog 29 #[.pointer (some ⟨g, 0, none⟩), opV e v5] W fun r w' => r = .returned (errV a 10) ∧ Below W.heap.size W w') ∧ (OkE (F ++ [e]) → Calls Tryz.prog 29 #[.pointer (some ⟨g, 0, none⟩), opV e v5] W fun r w' => r = .returned .nilIface ∧ Gath w' w.heap.size (fun k => k < w.heap.size) g (F ++ [e]) ∧ FrB w.heap.size (fun k => k < w.heap.size) W w')) := fun W k e v5 hW he hR ⟨p, c, e5⟩ g F hG => by
    subst e5
    have fe := hfit e (List.mem_of_getElem? he)
    exact ⟨fun h0 hov => pushB_long e _ _ _ W hI (hS.below hW) hR fe (hg e (List.mem_of_getElem? he)) hG h0 hov, fun hO => pushB_ok e _ _ _ W hI (hS.below hW) hR fe hG hO (fun k hk => Nat.lt_of_lt_of_le hk hW.size)⟩
  obtain ⟨n, hn⟩ : ∃ n, E.length = n := ⟨_, rfl⟩
  have HN : Hid (E.length = n) := hn
  obtain ⟨g, hgs⟩ : ∃ g, w.heap.size = g := ⟨_, rfl⟩
  have HGS : Hid (w.heap.size = g) := hgs
  have cN' : Calls Tryz.prog 9 #[] w fun e w' => e = .returned (.pointer (some ⟨g, 0, none⟩)) ∧ Gath w' w.heap.size (fun k => k < w.heap.size) g [] ∧ Below w.heap.size w w' := by rw [← hgs]; exact cN
  rw [hn] at hl HR ⊢
  clear hn hv hp hg hF hS ht cN hgs hrd hfit
  go_enter Tryz.func119, Tryz.ntmps119
  go_wp2_with fail
  refine cN'.mono ?_; rintro r w1 ⟨rfl, hg1, hb1⟩
  have HG1 : Hid (Gath w1 w.heap.size (fun k => k < w.heap.size) g []) := hg1
  clear cN' hg1
  go_wp2
  go_loopw [11] (fun i wr => ∃ (k : Nat), k ≤ n ∧ i = .int .i64 k ∧ Hid (Gath wr w.heap.size (fun k => k < w.heap.size) g (E.take k)) ∧ Hid (OkE (E.take k)) ∧ Below w.heap.size w wr) (fun i _ => n - (RowKit.intOf i).toNat)
  case atStart => exact ⟨0, Nat.zero_le _, rfl, by rw [List.take_zero]; exact HG1, by rw [List.take_zero]; exact OkE.nil, hb1⟩
  case round =>
    clear HG1 hb1
    obtain ⟨k, hk, rfl, HG, HO, hbw⟩ := hrel
    by_cases hlt : k < n
    · have hltI : (k : Int) < n := by omega
      obtain ⟨ga, e, s, rfl, he, hc, hs⟩ := HR.out k hlt
      have c2 := (hbw.cell (lt_of_cell hc)).trans hc
      have hR2 := own_RN (owns_below hs hbw)
      have hmem := List.mem_of_getElem? he
      have hge := HF.out.1 e hmem
      have hA2 : e.A.length ≤ 2097152 := by have := (HF.out.2.1 e hmem).n; omega
      obtain ⟨u, x, hux⟩ := pieceQ_if e s
      have HU : Hid (pieceQ e s = .iface u x) := hux
      have HT : Hid (E.take (k + 1) = E.take k ++ [e] ∧ E[k]? = some e) := by refine ⟨?_, he⟩; rw [List.take_add_one, he]; rfl
      rw [hux] at c2
      by_cases hov : sumB (E.take k) + baseO e ≤ 1099511627776 ∧ sumR (E.take k) + resO e ≤ 1099511627776
      · have HO2 : Hid (OkE (E.take (k + 1))) := by
          show OkE _
          have htk := txtS_take E (k + 1)
          rw [HT.out.1] at htk ⊢
          exact okE_snoc HO.out (refE_zero.2 ⟨hge, hov⟩) (HF.out.2.1 e hmem) (Nat.le_trans htk HF.out.2.2.1) (by simp; omega)
        have HP : Hid (∀ v5 w5, OwnA w5 wr.heap.size v5 e.A → Below wr.heap.size wr w5 → Calls Tryz.prog 29 #[.pointer (some ⟨g, 0, none⟩), opV e v5] w5 fun r w' => r = .returned .nilIface ∧ Hid (Gath w' w.heap.size (fun k => k < w.heap.size) g (E.take (k + 1))) ∧ Below w.heap.size w w') := fun v5 w5 o5 b5 => by
          have b := hbw.trans (b5.mono hbw.size)
          have := (HK.out w5 k e v5 b HT.out.2 (own_RN o5) (own_slice o5) g (E.take k) (BldE.below HG.out b5)).2 (by rw [← HT.out.1]; exact HO2.out)
          rw [← HT.out.1] at this
          exact this.mono fun r w' ⟨h1, h2, h3⟩ => ⟨h1, h2, b.trans h3.below⟩
        clear HG HO he hc hs hux HT hov hmem hbw
        go_wp2_with (refine wpList_opP rfl (.tmp 16) rfl e s HU.out.symm hge hR2 hA2 ?_; intro v5 w5 own5 hb5)
        refine (HP.out v5 w5 own5 hb5).mono ?_; rintro r w6 ⟨rfl, HG6, b6⟩
        clear HP own5 hb5 c2
        go_wp2
        go_roundw
        case rel => exact ⟨k + 1, by omega, by go_num, HG6, HO2, b6⟩
        case measure => simp [RowKit.intOf]; omega
      · have HB : Hid (¬ Fits8 E) := fun h => hov (by
          have h2 := fits_front (E := E.take (k + 1)) (F := E.drop (k + 1)) (fun o ho => HF.out.2.2.2 o (List.mem_of_mem_drop ho)) (by rw [List.take_append_drop]; exact h)
          unfold Fits8 at h2
          rw [HT.out.1, sumB_append, sumB_one, sumR_append, sumR_one] at h2
          exact h2)
        have HP : Hid (∀ v5 w5, OwnA w5 wr.heap.size v5 e.A → Below wr.heap.size wr w5 → Calls Tryz.prog 29 #[.pointer (some ⟨g, 0, none⟩), opV e v5] w5 fun r w' => r = .returned (errV a 10) ∧ Below w.heap.size w w') := fun v5 w5 o5 b5 => by
          have b := hbw.trans (b5.mono hbw.size)
          have := (HK.out w5 k e v5 b HT.out.2 (own_RN o5) (own_slice o5) g (E.take k) (BldE.below HG.out b5)).1 HO.out (by omega)
          exact this.mono fun r w' ⟨h1, h2⟩ => ⟨h1, b.trans (h2.mono b.size)⟩
        clear HG HO he hc hs hux HT hov hmem hbw
        go_wp2_with (refine wpList_opP rfl (.tmp 16) rfl e s HU.out.symm hge hR2 hA2 ?_; intro v5 w5 own5 hb5)
        refine (HP.out v5 w5 own5 hb5).mono ?_; rintro r w6 ⟨rfl, b6⟩
        clear HP own5 hb5 c2
        go_wp2
        go_ret2
        exact ⟨.pointer none, errV a 10, rfl, fun h => absurd h HB.out, fun _ => ⟨rfl, rfl⟩, b6⟩
    · have hltI : ¬ (k : Int) < n := by omega
      have hE : E.take k = E := List.take_of_length_le (by rw [HN.out]; omega)
      rw [hE] at HG HO
      have HB : Hid (Fits8 E) := ⟨HO.out.base, HO.out.res⟩
      have cD := delta_any wr HG.out HO.out
      clear hE HG HO
      go_wp2_with fail
      refine cD.mono ?_; rintro r w5 ⟨dv, rfl, h5, hb5⟩
      have H5 : Hid (DelV w5 w.heap.size w.heap.size dv (canonL E)) := by
        obtain ⟨q, pv, PL, x1, x2, x3, x4, x5⟩ := h5
        exact ⟨q, pv, PL, x1, Nat.le_trans hbw.size x2, x3, own_weaken x4 hbw.size, x5⟩
      have b5 := hbw.trans (hb5.mono hbw.size)
      clear cD h5 hb5
      go_wp2
      go_ret2
      exact ⟨dv, .nilIface, rfl, fun _ => ⟨rfl, H5.out⟩, fun h => absurd HB.out h, b5⟩
end Go.Proofs.YthfpmhnnjjikcaaGreatDoor

/- One list behind another, in canonical form, by units: sums, brackets, what a cut takes. -/
namespace Go.Proofs.YthfpmhnnjjikcaaGreatDoor
open Go Go.RowKit Go.Lib
set_option linter.unusedVariables false

/-- What is put in canonical order first, and more behind it, is what it is without that. -/
theorem nrm_left : ∀ (X : List U6) (l : List C5) (e : Nat) (I : List U6) (d : Nat) (Y : List U6), nrm I d (nrm (l.map .ins) e X ++ Y) = nrm I d (l.map .ins ++ (List.replicate e .del ++ (X ++ Y)))
  | [], l, e, I, d, Y => by
    show nrm I d ((l.map .ins ++ List.replicate e .del) ++ Y) = _
    rw [List.append_assoc, List.nil_append]
  | .keep A :: X, l, e, I, d, Y => by
    show nrm I d ((l.map .ins ++ (List.replicate e .del ++ .keep A :: nrm [] 0 X)) ++ Y) = _
    rw [List.append_assoc, List.append_assoc, nrm_ins, nrm_ins, nrm_del, nrm_del]
    show _ ++ (_ ++ .keep A :: nrm [] 0 (nrm [] 0 X ++ Y)) = _ ++ (_ ++ .keep A :: nrm [] 0 (X ++ Y))
    have := nrm_left X [] 0 [] 0 Y
    simp only [List.map_nil, List.replicate_zero, List.nil_append] at this
    rw [this]
  | .del :: X, l, e, I, d, Y => by
    show nrm I d (nrm (l.map .ins) (e + 1) X ++ Y) = _
    rw [nrm_left X l (e + 1) I d Y, List.replicate_succ', List.append_assoc]
    rfl
  | .ins c :: X, l, e, I, d, Y => by
    show nrm I d (nrm (l.map .ins ++ [.ins c]) e X ++ Y) = _
    have := nrm_left X (l ++ [c]) e I d Y
    rw [List.map_append] at this
    simp only [List.map_cons, List.map_nil] at this
    rw [this, List.append_assoc, nrm_ins, nrm_ins]
    show nrm (I ++ l.map .ins) d ([c].map .ins ++ (List.replicate e .del ++ (X ++ Y))) = nrm (I ++ l.map .ins) d (List.replicate e .del ++ ([c].map .ins ++ (X ++ Y)))
    rw [nrm_ins, nrm_del, nrm_del, nrm_ins]
theorem nrm_fst (X Y I : List U6) (d : Nat) : nrm I d (nrm [] 0 X ++ Y) = nrm I d (X ++ Y) := by
  have := nrm_left X [] 0 I d Y
  simpa using this
theorem nrm_snd (X Y I : List U6) (d : Nat) : nrm I d (X ++ nrm [] 0 Y) = nrm I d (X ++ Y) := by
  obtain ⟨P, J, e, h⟩ := nrm_state X I d
  rw [h, h]
  have := nrm_fst Y [] J e
  rw [List.append_nil, List.append_nil] at this
  rw [this]
/-- What doesn't end in what is kept as it is, doesn't in canonical order either. -/
theorem nrm_end (X : List U6) (u : U6) (hu : plainU u = false) (I : List U6) (d : Nat) : ∃ V v, nrm I d (X ++ [u]) = V ++ [v] ∧ plainU v = false := by
  obtain ⟨P, J, e, h⟩ := nrm_state X I d
  rw [h]
  cases u with
  | ins c =>
    cases e with
    | zero => exact ⟨P ++ J, .ins c, by show P ++ ((J ++ [.ins c]) ++ []) = _; simp, rfl⟩
    | succ e => exact ⟨P ++ ((J ++ [.ins c]) ++ List.replicate e .del), .del, by show P ++ ((J ++ [.ins c]) ++ List.replicate (e + 1) .del) = _; rw [List.replicate_succ']; simp, rfl⟩
  | keep A => exact ⟨P ++ (J ++ List.replicate e .del), .keep A, by show P ++ (J ++ (List.replicate e .del ++ [.keep A])) = _; simp, hu⟩
  | del => exact ⟨P ++ (J ++ List.replicate e .del), .del, by show P ++ (J ++ List.replicate (e + 1) .del) = _; rw [List.replicate_succ']; simp, rfl⟩
theorem last_units {E : List Op5} (hw : ∀ o ∈ E, Wel o) (hl : lastP E = true) : E = [] ∨ ∃ us u, units E = us ++ [u] ∧ plainU u = false := by
  rcases List.eq_nil_or_concat E with rfl | ⟨F, x, rfl⟩
  · exact Or.inl rfl
  · rw [List.concat_eq_append] at *
    rw [lastP_snoc] at hl
    obtain ⟨us, u, e1, e2⟩ := units_last (hw x (List.mem_append_right _ (List.mem_singleton.2 rfl))) (by simpa using hl)
    exact Or.inr ⟨units F ++ us, u, by rw [units_append, units_one, e1]; simp, e2⟩
/-- A list whose last one isn't a plain retain: its canonical form loses nothing. -/
theorem canon_full {E : List Op5} (hw : ∀ o ∈ E, Wel o) (hl : lastP E = true) : units (canonL E) = nrm [] 0 (units E) := by
  obtain ⟨_, _, _, h⟩ := canon_spec hw
  rw [h]
  rcases last_units hw hl with rfl | ⟨us, u, e1, e2⟩
  · rfl
  · obtain ⟨V, v, e3, e4⟩ := nrm_end us u e2 [] 0
    rw [e1, e3, strip_end e4]
theorem lastP_append {E F : List Op5} (hE : lastP E = true) (hF : lastP F = true) : lastP (E ++ F) = true := by
  rcases List.eq_nil_or_concat F with rfl | ⟨G, x, rfl⟩
  · rw [List.append_nil]; exact hE
  · rw [List.concat_eq_append] at *
    rw [← List.append_assoc, lastP_snoc]
    rw [lastP_snoc] at hF
    exact hF
/-- A canonical list. -/
structure CanO (E : List Op5) : Prop where
  wel : ∀ o ∈ E, Wel o
  chain : chainB E = true
  last : lastP E = true
theorem CanO.self {E : List Op5} (h : CanO E) : canonL E = E := canon_self h.wel h.chain h.last
theorem CanO.of {E : List Op5} (h : ∀ o ∈ E, Wel o) : CanO (canonL E) := by
  obtain ⟨h1, h2, h3, _⟩ := canon_spec h
  exact ⟨h1, h2, h3⟩
theorem CanO.inj {E F : List Op5} (hE : CanO E) (hF : CanO F) (h : units E = units F) : E = F := units_inj hE.wel hF.wel hE.chain hF.chain h
theorem wel_app {E F : List Op5} (hE : ∀ o ∈ E, Wel o) (hF : ∀ o ∈ F, Wel o) : ∀ o ∈ E ++ F, Wel o := fun o ho => (List.mem_append.1 ho).elim (hE o) (hF o)
/-- One delta behind another. -/
def cat8 (E F : List Op5) : List Op5 := canonL (E ++ F)
theorem cat_can {E F : List Op5} (hE : CanO E) (hF : CanO F) : CanO (cat8 E F) := .of (wel_app hE.wel hF.wel)
theorem cat_units {E F : List Op5} (hE : CanO E) (hF : CanO F) : units (cat8 E F) = nrm [] 0 (units E ++ units F) := by
  rw [← units_append]
  exact canon_full (wel_app hE.wel hF.wel) (lastP_append hE.last hF.last)
theorem cat_assoc {E F G : List Op5} (hE : CanO E) (hF : CanO F) (hG : CanO G) : cat8 (cat8 E F) G = cat8 E (cat8 F G) := by
  refine (cat_can (cat_can hE hF) hG).inj (cat_can hE (cat_can hF hG)) ?_
  rw [cat_units (cat_can hE hF) hG, cat_units hE (cat_can hF hG), cat_units hE hF, cat_units hF hG, nrm_fst, nrm_snd, List.append_assoc]
theorem cat_nil {E : List Op5} (hE : CanO E) : cat8 E [] = E := by unfold cat8; rw [List.append_nil]; exact hE.self
theorem nil_cat {E : List Op5} (hE : CanO E) : cat8 [] E = E := by unfold cat8; rw [List.nil_append]; exact hE.self
/-- How many cells come, how many go. -/
def insN8 (U : List U6) : Nat := U.countP fun u => match u with | .ins _ => true | _ => false
def delN8 (U : List U6) : Nat := U.countP fun u => match u with | .del => true | _ => false
def insO8 (o : Op5) : Int := if o.k = 1 ∨ o.k = 2 then len5 o else 0
def dlO8 (o : Op5) : Int := if o.k = 4 then len5 o else 0
def kpO8 (o : Op5) : Int := if o.k = 3 then len5 o else 0
def sumI8 (E : List Op5) : Int := (E.map insO8).sum
def sumD8 (E : List Op5) : Int := (E.map dlO8).sum
def sumK8 (E : List Op5) : Int := (E.map kpO8).sum
theorem ins_units8 {o : Op5} (h : Wel o) : insO8 o = (insN8 (unitsO o) : Int) := by
  unfold insO8 insN8
  rcases h.kinds with hk | hk | hk | hk
  · rw [if_pos (Or.inl hk), countP_all, len5_units h]
    intro u hu
    rcases unit_cases h hu with ⟨_, r, rfl⟩ | ⟨_, rfl⟩ | ⟨h2, _⟩ | ⟨h2, _⟩ <;> first | rfl | omega
  · rw [if_pos (Or.inr hk), countP_all, len5_units h]
    intro u hu
    rcases unit_cases h hu with ⟨_, r, rfl⟩ | ⟨_, rfl⟩ | ⟨h2, _⟩ | ⟨h2, _⟩ <;> first | rfl | omega
  · rw [if_neg (by omega), countP_none]; rfl
    intro u hu
    rcases unit_cases h hu with ⟨h2, _⟩ | ⟨h2, _⟩ | ⟨_, rfl⟩ | ⟨h2, rfl⟩ <;> first | rfl | omega
  · rw [if_neg (by omega), countP_none]; rfl
    intro u hu
    rcases unit_cases h hu with ⟨h2, _⟩ | ⟨h2, _⟩ | ⟨h2, rfl⟩ | ⟨h2, rfl⟩ <;> first | rfl | omega
theorem dl_units8 {o : Op5} (h : Wel o) : dlO8 o = (delN8 (unitsO o) : Int) := by
  unfold dlO8 delN8
  rcases h.kinds with hk | hk | hk | hk
  · rw [if_neg (by omega), countP_none]; rfl
    intro u hu
    rcases unit_cases h hu with ⟨_, r, rfl⟩ | ⟨_, rfl⟩ | ⟨h2, _⟩ | ⟨h2, _⟩ <;> first | rfl | omega
  · rw [if_neg (by omega), countP_none]; rfl
    intro u hu
    rcases unit_cases h hu with ⟨_, r, rfl⟩ | ⟨_, rfl⟩ | ⟨h2, _⟩ | ⟨h2, _⟩ <;> first | rfl | omega
  · rw [if_neg (by omega), countP_none]; rfl
    intro u hu
    rcases unit_cases h hu with ⟨h2, _⟩ | ⟨h2, _⟩ | ⟨_, rfl⟩ | ⟨h2, rfl⟩ <;> first | rfl | omega
  · rw [if_pos hk, countP_all, len5_units h]
    intro u hu
    rcases unit_cases h hu with ⟨h2, _⟩ | ⟨h2, _⟩ | ⟨h2, rfl⟩ | ⟨h2, rfl⟩ <;> first | rfl | omega
theorem insN8_append (U V : List U6) : insN8 (U ++ V) = insN8 U + insN8 V := by unfold insN8; rw [List.countP_append]
theorem delN8_append (U V : List U6) : delN8 (U ++ V) = delN8 U + delN8 V := by unfold delN8; rw [List.countP_append]
theorem sumI8_units : ∀ {E : List Op5}, (∀ o ∈ E, Wel o) → sumI8 E = (insN8 (units E) : Int)
  | [], _ => rfl
  | o :: r, h => by
    have ih := sumI8_units fun x hx => h x (List.mem_cons_of_mem _ hx)
    show insO8 o + sumI8 r = (insN8 (unitsO o ++ units r) : Int)
    rw [insN8_append, ins_units8 (h o (List.mem_cons_self ..)), ih]; omega
theorem sumD8_units : ∀ {E : List Op5}, (∀ o ∈ E, Wel o) → sumD8 E = (delN8 (units E) : Int)
  | [], _ => rfl
  | o :: r, h => by
    have ih := sumD8_units fun x hx => h x (List.mem_cons_of_mem _ hx)
    show dlO8 o + sumD8 r = (delN8 (unitsO o ++ units r) : Int)
    rw [delN8_append, dl_units8 (h o (List.mem_cons_self ..)), ih]; omega
theorem three_sums {o : Op5} (h : Wel o) : baseO o = kpO8 o + dlO8 o ∧ resO o = kpO8 o + insO8 o ∧ 0 ≤ kpO8 o ∧ 0 ≤ dlO8 o ∧ 0 ≤ insO8 o := by
  have h1 := base_nn h
  have h2 := res_nn h
  have hl := len5_units h
  unfold baseO resO kpO8 dlO8 insO8 at *
  rcases h.kinds with hk | hk | hk | hk
  · simp only [hk] at *; simp at *; omega
  · simp only [hk] at *; simp at *; omega
  · simp only [hk] at *; simp at *; omega
  · simp only [hk] at *; simp at *; omega
theorem sums_three : ∀ {E : List Op5}, (∀ o ∈ E, Wel o) → sumB E = sumK8 E + sumD8 E ∧ sumR E = sumK8 E + sumI8 E ∧ 0 ≤ sumK8 E ∧ 0 ≤ sumD8 E ∧ 0 ≤ sumI8 E
  | [], _ => by decide
  | o :: r, h => by
    have ih := sums_three fun x hx => h x (List.mem_cons_of_mem _ hx)
    have h1 := three_sums (h o (List.mem_cons_self ..))
    have e : sumB (o :: r) = baseO o + sumB r ∧ sumR (o :: r) = resO o + sumR r ∧ sumK8 (o :: r) = kpO8 o + sumK8 r ∧ sumD8 (o :: r) = dlO8 o + sumD8 r ∧ sumI8 (o :: r) = insO8 o + sumI8 r := ⟨rfl, rfl, rfl, rfl, rfl⟩
    omega
theorem cat_sums {E F : List Op5} (hE : CanO E) (hF : CanO F) : sumB (cat8 E F) = sumB E + sumB F ∧ sumR (cat8 E F) = sumR E + sumR F ∧ sumI8 (cat8 E F) = sumI8 E + sumI8 F ∧ sumD8 (cat8 E F) = sumD8 E + sumD8 F := by
  have hc := cat_can hE hF
  have hp : (units (cat8 E F)).Perm (units E ++ units F) := by
    rw [cat_units hE hF]
    have := nrm_perm (units E ++ units F) [] 0
    simpa using this
  have cnt : ∀ p : U6 → Bool, (units (cat8 E F)).countP p = (units E).countP p + (units F).countP p := fun p => by rw [hp.countP_eq, List.countP_append]
  refine ⟨?_, ?_, ?_, ?_⟩
  · rw [sumB_units hc.wel, sumB_units hE.wel, sumB_units hF.wel]; unfold baseU; rw [cnt]; omega
  · rw [sumR_units hc.wel, sumR_units hE.wel, sumR_units hF.wel]; unfold resU; rw [cnt]; omega
  · rw [sumI8_units hc.wel, sumI8_units hE.wel, sumI8_units hF.wel]; unfold insN8; rw [cnt]; omega
  · rw [sumD8_units hc.wel, sumD8_units hE.wel, sumD8_units hF.wel]; unfold delN8; rw [cnt]; omega
/-- Behind so many cells. -/
def shift8 (E : List Op5) (n : Int) : List Op5 := if n = 0 ∨ E = [] then E else canonL (pl7 n :: E)
theorem shift_wel {E : List Op5} (hE : CanO E) {n : Int} (h : 1 ≤ n) : ∀ o ∈ pl7 n :: E, Wel o := fun o ho => by
  rcases List.mem_cons.1 ho with rfl | ho
  · exact Or.inr (Or.inl ⟨rfl, rfl, rfl, h, by kernel_rfl⟩)
  · exact hE.wel o ho
theorem lastP_behind {x : Op5} {E : List Op5} (h : lastP E = true) (h0 : E ≠ []) : lastP (x :: E) = true := by
  cases E with
  | nil => exact absurd rfl h0
  | cons y r => rw [lastP_cons]; exact h
theorem shift_units {E : List Op5} (hE : CanO E) {n : Int} (h : 0 ≤ n) (h0 : E ≠ []) : CanO (shift8 E n) ∧ units (shift8 E n) = nrm [] 0 (List.replicate n.toNat (U6.keep []) ++ units E) := by
  by_cases hn : n = 0
  · subst hn
    have e : shift8 E 0 = E := if_pos (Or.inl rfl)
    rw [e]
    exact ⟨hE, by show _ = nrm [] 0 (units E); rw [nrm_chain [] hE.wel hE.chain]; rfl⟩
  · have e : shift8 E n = canonL (pl7 n :: E) := if_neg (by simp [hn, h0])
    have hw := shift_wel hE (n := n) (by omega)
    rw [e]
    exact ⟨.of hw, canon_full hw (lastP_behind hE.last h0)⟩
theorem shift_ne {E : List Op5} (hE : CanO E) {n : Int} (h : 0 ≤ n) (h0 : E ≠ []) : shift8 E n ≠ [] := fun e => by
  obtain ⟨_, hu⟩ := shift_units hE h h0
  rw [e] at hu
  have hp := nrm_perm (List.replicate n.toNat (U6.keep []) ++ units E) [] 0
  rw [← hu] at hp
  have hl := hp.length_eq
  cases E with
  | nil => exact h0 rfl
  | cons x r =>
    have := unitsO_ne (hE.wel x (List.mem_cons_self ..))
    have h2 : units (x :: r) = unitsO x ++ units r := rfl
    have h3 : 1 ≤ (unitsO x).length := by
      cases hx : unitsO x with
      | nil => exact absurd hx this
      | cons _ _ => simp
    simp [units] at hl
    omega
theorem shift_two {E : List Op5} (hE : CanO E) {m n : Int} (hm : 0 ≤ m) (hn : 0 ≤ n) : shift8 (shift8 E m) n = shift8 E (m + n) := by
  by_cases h0 : E = []
  · subst h0
    have e : ∀ k : Int, shift8 [] k = [] := fun k => if_pos (Or.inr rfl)
    rw [e, e, e]
  · obtain ⟨c1, u1⟩ := shift_units hE hm h0
    obtain ⟨c2, u2⟩ := shift_units c1 hn (shift_ne hE hm h0)
    obtain ⟨c3, u3⟩ := shift_units hE (show 0 ≤ m + n by omega) h0
    refine c2.inj c3 ?_
    rw [u2, u1, u3, nrm_snd, ← List.append_assoc, List.replicate_append_replicate, show (m + n).toNat = n.toNat + m.toNat by omega]
theorem shift_sums {E : List Op5} (hE : CanO E) {n : Int} (h : 0 ≤ n) (h0 : E ≠ []) : sumB (shift8 E n) = n + sumB E ∧ sumR (shift8 E n) = n + sumR E := by
  obtain ⟨hc, hu⟩ := shift_units hE h h0
  have hp : (units (shift8 E n)).Perm (List.replicate n.toNat (U6.keep []) ++ units E) := by
    rw [hu]
    have := nrm_perm (List.replicate n.toNat (U6.keep []) ++ units E) [] 0
    simpa using this
  have cnt : ∀ p : U6 → Bool, p (U6.keep []) = true → (units (shift8 E n)).countP p = n.toNat + (units E).countP p := fun p hp' => by
    rw [hp.countP_eq, List.countP_append, List.countP_replicate, if_pos hp']
  refine ⟨?_, ?_⟩
  · rw [sumB_units hc.wel, sumB_units hE.wel]; unfold baseU; rw [cnt _ rfl]; omega
  · rw [sumR_units hc.wel, sumR_units hE.wel]; unfold resU; rw [cnt _ rfl]; omega
end Go.Proofs.YthfpmhnnjjikcaaGreatDoor

/- measure: count: how many cells a delta keeps, makes and takes away; Base, Result, Inserted, Deleted, Document. -/
namespace Go.Proofs.YthfpmhnnjjikcaaGreatDoor
open Go Go.RowKit Go.Lib Go.Shelf
set_option linter.unusedVariables false
attribute [local go_sem] Oper.semAt_some

abbrev cnt8 (k i d : Int) : Array Value := #[.int .i64 k, .int .i64 i, .int .i64 d]
theorem tr_below8 {T : TypeId → Prop} {n B : Nat} {w A A' : World} (h : Below n w A) (hn : n ≤ w.heap.size) (hB : n ≤ B) (k : Tr7 T B A A') : Below n w A' :=
  ⟨k.os.trans h.os, k.tape.trans h.tape, k.output.trans h.output, Nat.le_trans h.size k.size, fun j hj => by
    have hl : j < A.heap.size := by have := h.size; omega
    rw [k.kept j A.heap[j] (Array.getElem?_eq_getElem hl) (.inl (by omega)), ← h.block j hj, Array.getElem?_eq_getElem hl]⟩
theorem count_leave (n0 W : World) (D r : Nat) (tmps : Array Value) (k i d : Int) (hp : tmps[2]? = some (.pointer (some ⟨r, 0, none⟩))) (hr : W.heap[r]? = some (.cells (cnt8 k i d) 153 (0, 0)))
    (hK : W.heap[D]? = some (.deferred (some []))) (h1 : n0.heap.size ≤ D) (hb : Below n0.heap.size n0 W) :
    bodyPostM Fence.wide 5 Tryz.prog Tryz.f87 (fun e w' => e = .returned (.agg (cnt8 k i d)) ∧ Below n0.heap.size n0 w') Exit.ret
      { tmps := tmps, defers := [{ target := .collected D, args := #[] }] } W := by
  have hne : r ≠ D := fun e => by subst e; rw [hr] at hK; cases hK
  have hr' : (W.putObj D (.deferred none)).heap[r]? = some (.cells (cnt8 k i d) 153 (0, 0)) := (World.putObj_heap_other hne).trans hr
  have c0 : (W.putObj D (.deferred none)).cell? ⟨r, 0, none⟩ = some (.int .i64 k) := by rw [cell_of_heap hr']; rfl
  have c1 : (W.putObj D (.deferred none)).cell? ⟨r, 1, none⟩ = some (.int .i64 i) := by rw [cell_of_heap hr']; rfl
  have c2 : (W.putObj D (.deferred none)).cell? ⟨r, 2, none⟩ = some (.int .i64 d) := by rw [cell_of_heap hr']; rfl
  refine ⟨by simp, .inl ⟨_, _, rfl, run_takeDeferred hK, ?_⟩⟩
  refine ⟨.agg (cnt8 k i d), ?_, rfl, ?_⟩
  · simp [results, Tryz.results87, go_sem, hp, c0, c1, c2]
  · exact hb.trans (belowK_b (w := n0) (Nat.le_refl _) _ D _ _ h1 hK rfl rfl)
theorem KZ.set8 {pre : List PZ} {x : PZ} {W W' : World} {N j : Nat} {v : Array Value} (b : Below W.heap.size W W') (h : W.heap[N]? = some (.cells v 153 (0, 0))) (u : Value) : KZ pre x W (W'.setCell ⟨N, j, none⟩ u) := by
  have key : ∀ (k : Nat) (o : Obj), W.heap[k]? = some o → k ≠ N → (W'.setCell ⟨N, j, none⟩ u).heap[k]? = some o := fun k o hk n2 => by
    rw [Below.heap_setCell _ _ _ _ (by exact n2), b.block k (Array.getElem?_eq_some_iff.1 hk).1, hk]
  exact ⟨by simp only [World.setCell, Array.size_modify]; exact b.size, fun k cs hk => key k _ hk (fun e => by subst e; rw [h] at hk; cases hk), fun k cs hk _ => key k _ hk (fun e => by subst e; rw [h] at hk; cases hk)⟩
theorem set3_heap8 {W : World} {r : Nat} (h : W.heap[r]? = some (.cells (cnt8 0 0 0) 153 (0, 0))) (a b c : Value) :
    (((W.setCell ⟨r, 0, none⟩ a).setCell ⟨r, 1, none⟩ b).setCell ⟨r, 2, none⟩ c).heap[r]? = some (.cells #[a, b, c] 153 (0, 0)) ∧ (∀ (k : Nat) (o : Obj), W.heap[k]? = some o → k ≠ r → (((W.setCell ⟨r, 0, none⟩ a).setCell ⟨r, 1, none⟩ b).setCell ⟨r, 2, none⟩ c).heap[k]? = some o) ∧ Below r W (((W.setCell ⟨r, 0, none⟩ a).setCell ⟨r, 1, none⟩ b).setCell ⟨r, 2, none⟩ c) := by
  have h1 := heap_set_at W r 0 a _ _ _ h
  have h2 := heap_set_at _ r 1 b _ _ _ h1
  have h3 := heap_set_at _ r 2 c _ _ _ h2
  refine ⟨h3, fun k o hk hn => ?_, (((Below.refl _ _).setCell (p := ⟨r, 0, none⟩) (Nat.le_refl _) _).setCell (p := ⟨r, 1, none⟩) (Nat.le_refl _) _).setCell (p := ⟨r, 2, none⟩) (Nat.le_refl _) _⟩
  rw [Below.heap_setCell _ _ _ _ (by exact hn), Below.heap_setCell _ _ _ _ (by exact hn), Below.heap_setCell _ _ _ _ (by exact hn), hk]
/-- What count has behind some pieces. -/
def CI8 (E : List Op5) (w : World) (r N : Nat) (pre : List PZ) (W : World) : Prop := W.heap[N]? = some (.cells (cnt8 (sumK8 (E.take pre.length)) (sumI8 (E.take pre.length)) (sumD8 (E.take pre.length))) 153 (0, 0)) ∧ W.heap[r]? = some (.cells (cnt8 0 0 0) 153 (0, 0)) ∧ Below w.heap.size w W
theorem sumK8_append (E F : List Op5) : sumK8 (E ++ F) = sumK8 E + sumK8 F := by unfold sumK8; rw [List.map_append, List.sum_append]
theorem sumI8_append (E F : List Op5) : sumI8 (E ++ F) = sumI8 E + sumI8 F := by unfold sumI8; rw [List.map_append, List.sum_append]
theorem sumD8_append (E F : List Op5) : sumD8 (E ++ F) = sumD8 E + sumD8 F := by unfold sumD8; rw [List.map_append, List.sum_append]
theorem others8 {w w' : World} (h : Below w.heap.size w w') : KeepsOthers w w' :=
  ⟨h.size, fun k o hk _ => (h.block k (Array.getElem?_eq_some_iff.1 hk).1).trans hk⟩
/-- Behind a round. -/
theorem ci_step {E : List Op5} {w W W' : World} {r N B j : Nat} {pre : List PZ} {x : PZ} {e : Op5} {u : Int} (hI : CI8 E w r N pre W) (he : E[pre.length]? = some e) (hN : w.heap.size ≤ N) (hrN : r ≠ N) (b : Below W.heap.size W W')
    (hu : (cnt8 (sumK8 (E.take pre.length)) (sumI8 (E.take pre.length)) (sumD8 (E.take pre.length))).setIfInBounds j (.int .i64 u) = cnt8 (sumK8 (E.take pre.length) + kpO8 e) (sumI8 (E.take pre.length) + insO8 e) (sumD8 (E.take pre.length) + dlO8 e)) :
    KeepsFrom B W (W'.setCell ⟨N, j, none⟩ (.int .i64 u)) ∧ KZ pre x W (W'.setCell ⟨N, j, none⟩ (.int .i64 u)) ∧ CI8 E w r N (pre ++ [x]) (W'.setCell ⟨N, j, none⟩ (.int .i64 u)) := by
  obtain ⟨h1, h2, h3⟩ := hI
  have h1' := heap_below b h1
  have hT : E.take (pre ++ [x]).length = E.take pre.length ++ [e] := by rw [List.length_append, List.length_singleton, List.take_add_one, he]; rfl
  refine ⟨((others8 b).trans (KeepsOthers.setCell _ _ _)).from _, KZ.set8 b h1 _, ?_, ?_, (h3.trans (b.mono h3.size)).setCell (p := ⟨N, j, none⟩) hN _⟩
  · rw [heap_set_at W' _ j _ _ _ _ h1', hT, sumK8_append, sumI8_append, sumD8_append]
    have e1 : sumK8 [e] = kpO8 e := by simp [sumK8]
    have e2 : sumI8 [e] = insO8 e := by simp [sumI8]
    have e3 : sumD8 [e] = dlO8 e := by simp [sumD8]
    rw [e1, e2, e3, hu]
  · rw [Below.heap_setCell _ _ _ _ (by exact hrN)]
    exact heap_below b h2
theorem fits_pre8 {E : List Op5} (hw : ∀ o ∈ E, Wel o) (hf : sumB E ≤ 1099511627776 ∧ sumR E ≤ 1099511627776) (k : Nat) : (0 ≤ sumK8 (E.take k) ∧ sumK8 (E.take k) ≤ 1099511627776) ∧ (0 ≤ sumI8 (E.take k) ∧ sumI8 (E.take k) ≤ 1099511627776) ∧ 0 ≤ sumD8 (E.take k) ∧ sumD8 (E.take k) ≤ 1099511627776 := by
  have h1 := sums_three (E := E.take k) fun o ho => hw o (List.mem_of_mem_take ho)
  have h2 := sums_three (E := E.drop k) fun o ho => hw o (List.mem_of_mem_drop ho)
  have h3 := sums_three hw
  have e1 := sumK8_append (E.take k) (E.drop k)
  have e2 := sumI8_append (E.take k) (E.drop k)
  have e3 := sumD8_append (E.take k) (E.drop k)
  rw [List.take_append_drop] at e1 e2 e3
  omega
theorem len_pre8 {E : List Op5} (hg : ∀ o ∈ E, opE o = 0) (hf : sumB E ≤ 1099511627776 ∧ sumR E ≤ 1099511627776) {e : Op5} (he : e ∈ E) : 1 ≤ len5 e ∧ len5 e ≤ 1099511627776 := by
  have hw : ∀ o ∈ E, Wel o := fun o ho => wel_of (hg o ho)
  obtain ⟨h1, h2⟩ := mem_sums hw he
  have hp := len5_pos (hg e he)
  refine ⟨hp, ?_⟩
  unfold baseO resO at *
  rcases (hw e he).kinds with hk | hk | hk | hk <;> simp [hk] at h1 h2 <;> omega
set_option maxHeartbeats 4000000 in
set_option maxRecDepth 100000 in
theorem count8_any {B1 B2 : Nat} (v : Value) (E : List Op5) (w : World) (h : DelV w B1 B2 v E) (hg : ∀ o ∈ E, opE o = 0) (hA : ∀ o ∈ E, o.A.length ≤ 2097152) (hl : E.length ≤ 4194304) (hf : sumB E ≤ 1099511627776 ∧ sumR E ≤ 1099511627776) :
    Calls Tryz.prog 87 #[v] w fun e w' => e = .returned (.agg (cnt8 (sumK8 E) (sumI8 E) (sumD8 E))) ∧ Below w.heap.size w w' := by
  have b1 : Below w.heap.size w ((w.alloc (.cells (cnt8 0 0 0) 153)).alloc (.cells (cnt8 0 0 0) 153)) := ((Below.refl _ _).alloc (Nat.le_refl _) _).alloc (by simp) _
  have n1 : ((w.alloc (.cells (cnt8 0 0 0) 153)).alloc (.cells (cnt8 0 0 0) 153)).heap[w.heap.size + 1]? = some (.cells (cnt8 0 0 0) 153 (0, 0)) := by
    have := heap_alloc_new (w.alloc (.cells (cnt8 0 0 0) 153)) (.cells (cnt8 0 0 0) 153)
    rwa [World.size_alloc] at this
  have n2 : ((w.alloc (.cells (cnt8 0 0 0) 153)).alloc (.cells (cnt8 0 0 0) 153)).heap[w.heap.size]? = some (.cells (cnt8 0 0 0) 153 (0, 0)) :=
    heap_below ((Below.refl _ _).alloc (Nat.le_refl _) _) (heap_alloc_new w _)
  have cE := each7_call v E _ (h.below b1)
  have hw : ∀ o ∈ E, Wel o := fun o ho => wel_of (hg o ho)
  have HE : Hid ((∀ o ∈ E, opE o = 0) ∧ (∀ o ∈ E, o.A.length ≤ 2097152) ∧ E.length ≤ 4194304 ∧ (sumB E ≤ 1099511627776 ∧ sumR E ≤ 1099511627776) ∧ ∀ o ∈ E, Wel o) := ⟨hg, hA, hl, hf, hw⟩
  have H1 : Hid (CI8 E w w.heap.size (w.heap.size + 1) [] ((w.alloc (.cells (cnt8 0 0 0) 153)).alloc (.cells (cnt8 0 0 0) 153))) := ⟨n1, n2, b1⟩
  obtain ⟨q, pv, PL, rfl, _⟩ := h
  clear hg hA hl hf hw b1 n1 n2
  refine (callsIn_wide (n := 5)).1 ?_
  refine callsIn_of_wp_marks Tryz.func87 rfl trivial ?_ rfl
  simp only [Tryz.ntmps87, List.size_toArray, List.length_cons, List.length_nil, Nat.reduceAdd, Nat.reduceSub, Array.replicate_succ, Array.replicate_zero, List.push_toArray, List.append_toArray, List.nil_append, List.cons_append]
  rw [wpIn_wide]
  go_wp2_with fail
  refine cE.mono ?_; rintro r w2 ⟨x, rfl, hx, -, b2⟩
  have H2 : Hid (CI8 E w w.heap.size (w.heap.size + 1) [] w2 ∧ BoxD w2 x B1 B2 E) := ⟨⟨heap_below b2 H1.out.1, heap_below b2 H1.out.2.1, H1.out.2.2.trans (b2.mono H1.out.2.2.size)⟩, hx⟩
  have hsz : w.heap.size + 1 < w2.heap.size := (Array.getElem?_eq_some_iff.1 H2.out.1.1).1
  clear cE hx b2 H1
  go_wp2_with fail
  refine (wpIn_wide (n := 5)).1 ?_
  refine wpIn_rangeFunc_G (encs := encZ) rfl (by decide) (gf := 99) (lb := #[.pointer (some ⟨x, 0, none⟩)]) rfl trivial (enters_of Tryz.func99 (by kernel_rfl) rfl)
    (each7_seq E w2 x B1 B2 H2.out.2 HE.out.1 HE.out.2.1 HE.out.2.2.1 4 (by decide)) (Below.refl _ _) (fun _ => rfl) (fun pre x A A' h k => h.bk k) (fun pre x A A' B B' k1 h k2 => KZ.bk k1 h k2)
    (CI8 E w w.heap.size (w.heap.size + 1)) (fun _ _ _ => False)
    (fun s A A' h k => ⟨k.kept _ _ h.1 (.inl hsz), k.kept _ _ h.2.1 (.inl (by omega)), tr_below8 h.2.2 (Nat.le_refl _) (by omega) k⟩) (fun _ _ _ _ h _ => h) H2.out.1 ?a1 ?assign ?body ?done ?stop
  case assign =>
    intro l x W K hK
    gi_wp2
    exact hK
  case body =>
    rintro l pre x W hI ⟨e, s', he, hx, _⟩
    obtain ⟨x1, xlo, xhi⟩ := x
    simp only at hx
    subst hx
    have HI : Hid (CI8 E w w.heap.size (w.heap.size + 1) pre W ∧ E[pre.length]? = some e) := ⟨hI, he⟩
    have hge := HE.out.1 e (List.mem_of_getElem? he)
    obtain ⟨K, hK⟩ : ∃ x, sumK8 (E.take pre.length) = x := ⟨_, rfl⟩
    obtain ⟨I, hI'⟩ : ∃ x, sumI8 (E.take pre.length) = x := ⟨_, rfl⟩
    obtain ⟨D, hD⟩ : ∃ x, sumD8 (E.take pre.length) = x := ⟨_, rfl⟩
    have hc := HI.out.1.1
    rw [hK, hI', hD] at hc
    have c0 : W.cell? ⟨w.heap.size + 1, 0, none⟩ = some (.int .i64 K) := by rw [cell_of_heap hc]; rfl
    have c1 : W.cell? ⟨w.heap.size + 1, 1, none⟩ = some (.int .i64 I) := by rw [cell_of_heap hc]; rfl
    have c2 : W.cell? ⟨w.heap.size + 1, 2, none⟩ = some (.int .i64 D) := by rw [cell_of_heap hc]; rfl
    have HC : Hid (∀ W', Below W.heap.size W W' → (W'.cell? ⟨w.heap.size + 1, 0, none⟩ = some (.int .i64 K) ∧ W'.cell? ⟨w.heap.size + 1, 1, none⟩ = some (.int .i64 I) ∧ W'.cell? ⟨w.heap.size + 1, 2, none⟩ = some (.int .i64 D)) ∧ W'.frozen? ⟨w.heap.size + 1, 0, none⟩ = false ∧ W'.frozen? ⟨w.heap.size + 1, 1, none⟩ = false ∧ W'.frozen? ⟨w.heap.size + 1, 2, none⟩ = false) := fun W' hb => ⟨⟨(hb.cell (lt_of_cell c0)).trans c0, (hb.cell (lt_of_cell c1)).trans c1, (hb.cell (lt_of_cell c2)).trans c2⟩, frozen_of_heap (heap_below hb hc) 0, frozen_of_heap (heap_below hb hc) 1, frozen_of_heap (heap_below hb hc) 2⟩
    have bd : Below W.heap.size W W.drew := (Below.refl _ _).drew
    have md := HC.out _ bd
    obtain ⟨L, hL⟩ : ∃ x, len5 e = x := ⟨_, rfl⟩
    have hr : ((0 ≤ K ∧ K ≤ 1099511627776) ∧ (0 ≤ I ∧ I ≤ 1099511627776) ∧ (0 ≤ D ∧ D ≤ 1099511627776)) ∧ 1 ≤ L ∧ L ≤ 1099511627776 := by
      have h1 := fits_pre8 HE.out.2.2.2.2 HE.out.2.2.2.1 pre.length
      have h2 := len_pre8 HE.out.1 HE.out.2.2.2.1 (List.mem_of_getElem? he)
      rw [hK, hI', hD] at h1
      rw [hL] at h2
      exact ⟨h1, h2⟩
    replace hK : Hid (sumK8 (E.take pre.length) = K ∧ sumI8 (E.take pre.length) = I ∧ sumD8 (E.take pre.length) = D ∧ len5 e = L) := ⟨hK, hI', hD, hL⟩
    clear hI he hc c0 c1 c2 hI' hD
    rcases kinds_of hge with hk | hk | hk | hk
    · have hu : Hid (kpO8 e = 0 ∧ insO8 e = len5 e ∧ dlO8 e = 0) := by show _ ∧ _ ∧ _; unfold kpO8 dlO8 insO8; simp [hk]
      have hl := (len5_1 hk).symm.trans hL
      rw [pieceQ_1 hk]
      have a0 := as_i_r
      have a1 := as_i_d
      rw [hl]
      have hz : IntKind.i64.wrap (I + L) = I + L := by rw [IntKind.wrap_i64]; omega
      have hm : ∀ W : World, (method 365 188 (.agg #[s', .string e.t, .int .i64 L]) "Len").run Tryz.prog W = .ok (194, .agg #[s', .string e.t, .int .i64 L]) W := fun _ => by kernel_rfl
      have cLen : Hid (∀ W', Below W.heap.size W W' → Calls Tryz.prog 194 #[.agg #[s', .string e.t, .int .i64 L]] W' fun r w' => r = .returned (.int .i64 L) ∧ Below W.heap.size W w') := fun W' hW => from_below hW (ilen_any s' e.t L W')
      clear hk hl
      gi_wp2
      gi_region_with (refine ⟨trivial, (CallsIn.inRound l (callsIn_wide.2 (cLen.out _ bd))).mono ?_⟩; rintro r wA ⟨rfl, bA⟩; have mA := HC.out wA bA)
      all_goals (gi_wp2)
      all_goals exact ci_step HI.out.1 HI.out.2 (by omega) (by omega) bA (by rw [hK.out.1, hK.out.2.1, hK.out.2.2.1, hu.out.1, hu.out.2.1, hu.out.2.2, hK.out.2.2.2]; simp)
    · have hu : Hid (kpO8 e = 0 ∧ insO8 e = len5 e ∧ dlO8 e = 0) := by show _ ∧ _ ∧ _; unfold kpO8 dlO8 insO8; simp [hk]
      have hl := (len5_2 hk).symm.trans hL
      rw [pieceQ_2 hk]
      have a0 := as_e_r
      have a1 := as_e_d
      obtain ⟨V, hV⟩ : ∃ V, valP e.v = V := ⟨_, rfl⟩
      rw [hV]
      have hz : IntKind.i64.wrap (I + L) = I + L := by rw [IntKind.wrap_i64]; omega
      have hm : ∀ W : World, (method 365 192 (.agg #[s', .string e.t, V]) "Len").run Tryz.prog W = .ok (196, .agg #[s', .string e.t, V]) W := fun _ => by kernel_rfl
      have cLen : Hid (∀ W', Below W.heap.size W W' → Calls Tryz.prog 196 #[.agg #[s', .string e.t, V]] W' fun r w' => r = .returned (.int .i64 L) ∧ Below W.heap.size W w') := fun W' hW => from_below hW (by have := elen_any V s' e.t W'; rw [hl] at this; exact this)
      clear hk hl
      gi_wp2
      gi_region_with (refine ⟨trivial, (CallsIn.inRound l (callsIn_wide.2 (cLen.out _ bd))).mono ?_⟩; rintro r wA ⟨rfl, bA⟩; have mA := HC.out wA bA)
      all_goals (gi_wp2)
      all_goals exact ci_step HI.out.1 HI.out.2 (by omega) (by omega) bA (by rw [hK.out.1, hK.out.2.1, hK.out.2.2.1, hu.out.1, hu.out.2.1, hu.out.2.2, hK.out.2.2.2]; simp)
    · have hu : Hid (kpO8 e = len5 e ∧ insO8 e = 0 ∧ dlO8 e = 0) := by show _ ∧ _ ∧ _; unfold kpO8 dlO8 insO8; simp [hk]
      have hl := (len5_3 (.inl hk)).symm.trans hL
      rw [pieceQ_3 hk]
      have a0 := as_r_r
      have a1 := as_r_d
      rw [hl]
      have hz : IntKind.i64.wrap (K + L) = K + L := by rw [IntKind.wrap_i64]; omega
      have hm : ∀ W : World, (method 365 160 (.agg #[s', .int .i64 L]) "Len").run Tryz.prog W = .ok (192, .agg #[s', .int .i64 L]) W := fun _ => by kernel_rfl
      have cLen : Hid (∀ W', Below W.heap.size W W' → Calls Tryz.prog 192 #[.agg #[s', .int .i64 L]] W' fun r w' => r = .returned (.int .i64 L) ∧ Below W.heap.size W w') := fun W' hW => from_below hW (rlen_any s' L W')
      clear hk hl
      gi_wp2
      gi_region_with (refine ⟨trivial, (CallsIn.inRound l (callsIn_wide.2 (cLen.out _ bd))).mono ?_⟩; rintro r wA ⟨rfl, bA⟩; have mA := HC.out wA bA)
      all_goals (gi_wp2)
      all_goals exact ci_step HI.out.1 HI.out.2 (by omega) (by omega) bA (by rw [hK.out.1, hK.out.2.1, hK.out.2.2.1, hu.out.1, hu.out.2.1, hu.out.2.2, hK.out.2.2.2]; simp)
    · have hu : Hid (kpO8 e = 0 ∧ insO8 e = 0 ∧ dlO8 e = len5 e) := by show _ ∧ _ ∧ _; unfold kpO8 dlO8 insO8; simp [hk]
      have hl := (len5_3 (.inr hk)).symm.trans hL
      rw [pieceQ_4 hk]
      have a0 := as_d_r
      have a1 := as_d_d
      rw [hl]
      have hz : IntKind.i64.wrap (D + L) = D + L := by rw [IntKind.wrap_i64]; omega
      have hm : ∀ W : World, (method 365 105 (.agg #[.int .i64 L]) "Len").run Tryz.prog W = .ok (190, .agg #[.int .i64 L]) W := fun _ => by kernel_rfl
      have cLen : Hid (∀ W', Below W.heap.size W W' → Calls Tryz.prog 190 #[.agg #[.int .i64 L]] W' fun r w' => r = .returned (.int .i64 L) ∧ Below W.heap.size W w') := fun W' hW => from_below hW (dlen_any L W')
      clear hk hl
      gi_wp2
      gi_region_with (refine ⟨trivial, (CallsIn.inRound l (callsIn_wide.2 (cLen.out _ bd))).mono ?_⟩; rintro r wA ⟨rfl, bA⟩; have mA := HC.out wA bA)
      all_goals (gi_wp2)
      all_goals exact ci_step HI.out.1 HI.out.2 (by omega) (by omega) bA (by rw [hK.out.1, hK.out.2.1, hK.out.2.2.1, hu.out.1, hu.out.2.1, hu.out.2.2, hK.out.2.2.2]; simp)
  case stop => intro D c pre W _ h; exact h.elim
  case done =>
    rintro D xs W hD hS ⟨hN, hR, hB⟩ hK
    rw [hS, List.take_length] at hN
    have c0 : W.cell? ⟨w.heap.size + 1, 0, none⟩ = some (.int .i64 (sumK8 E)) := by rw [cell_of_heap hN]; rfl
    have c1 : W.cell? ⟨w.heap.size + 1, 1, none⟩ = some (.int .i64 (sumI8 E)) := by rw [cell_of_heap hN]; rfl
    have c2 : W.cell? ⟨w.heap.size + 1, 2, none⟩ = some (.int .i64 (sumD8 E)) := by rw [cell_of_heap hN]; rfl
    have r0 : W.cell? ⟨w.heap.size, 0, none⟩ = some (.int .i64 0) := by rw [cell_of_heap hR]; rfl
    have r1 : W.cell? ⟨w.heap.size, 1, none⟩ = some (.int .i64 0) := by rw [cell_of_heap hR]; rfl
    have r2 : W.cell? ⟨w.heap.size, 2, none⟩ = some (.int .i64 0) := by rw [cell_of_heap hR]; rfl
    have f0 := frozen_of_heap hR 0
    have f1 := frozen_of_heap hR 1
    have f2 := frozen_of_heap hR 2
    have HF : Hid (w.heap.size ≤ D ∧ W.heap[D]? = some (.deferred (some [])) ∧ W.heap[w.heap.size]? = some (.cells (cnt8 0 0 0) 153 (0, 0)) ∧ Below w.heap.size w W) := ⟨by omega, hK, hR, hB⟩
    clear hN hS hR hB hK hD
    gi_wp2
    go_wp2
    obtain ⟨z1, z2, z3, z4⟩ := HF.out
    obtain ⟨y1, y2, y3⟩ := set3_heap8 z3 (.int .i64 (sumK8 E)) (.int .i64 (sumI8 E)) (.int .i64 (sumD8 E))
    exact count_leave w _ D w.heap.size _ _ _ _ rfl y1 (y2 D _ z2 (fun e => by subst e; rw [z3] at z2; cases z2)) z1 (z4.trans y3)
end Go.Proofs.YthfpmhnnjjikcaaGreatDoor

/- measure: Base, Result, Inserted, Deleted, Document, Concat, Shift. -/
namespace Go.Proofs.YthfpmhnnjjikcaaGreatDoor
open Go Go.RowKit Go.Lib
set_option linter.unusedVariables false

theorem cbase_any (k i d : Int) (w : World) (h : (0 ≤ k ∧ k ≤ 1099511627776) ∧ 0 ≤ d ∧ d ≤ 1099511627776) :
    Calls Tryz.prog 117 #[.agg (cnt8 k i d)] w fun e w' => e = .returned (.int .i64 (k + d)) ∧ Below w.heap.size w w' := by
  have hz : IntKind.i64.wrap (k + d) = k + d := by rw [IntKind.wrap_i64]; omega
  go_enter Tryz.func117, Tryz.ntmps117
  go_wp2
  go_ret
  exact ⟨rfl, (Below.refl _ _).alloc (Nat.le_refl _) _⟩
theorem cresult_any (k i d : Int) (w : World) (h : (0 ≤ k ∧ k ≤ 1099511627776) ∧ 0 ≤ i ∧ i ≤ 1099511627776) :
    Calls Tryz.prog 88 #[.agg (cnt8 k i d)] w fun e w' => e = .returned (.int .i64 (k + i)) ∧ Below w.heap.size w w' := by
  have hz : IntKind.i64.wrap (k + i) = k + i := by rw [IntKind.wrap_i64]; omega
  go_enter Tryz.func88, Tryz.ntmps88
  go_wp2
  go_ret
  exact ⟨rfl, (Below.refl _ _).alloc (Nat.le_refl _) _⟩
/-- What is known of a delta's list. -/
structure DlE (w : World) (B1 B2 : Nat) (v : Value) (E : List Op5) : Prop where
  d : DelV w B1 B2 v E
  g : ∀ o ∈ E, opE o = 0
  fit : ∀ o ∈ E, FitA o
  len : E.length ≤ 2097152
  txt : txtS E ≤ 4194304
  fits : Fits8 E
theorem DlE.below {w w' : World} {B1 B2 : Nat} {v : Value} {E : List Op5} (h : DlE w B1 B2 v E) (b : Below w.heap.size w w') : DlE w' B1 B2 v E := ⟨h.d.below b, h.g, h.fit, h.len, h.txt, h.fits⟩
theorem DlE.wel {w : World} {B1 B2 : Nat} {v : Value} {E : List Op5} (h : DlE w B1 B2 v E) : ∀ o ∈ E, Wel o := fun o ho => wel_of (h.g o ho)
theorem DlE.n {w : World} {B1 B2 : Nat} {v : Value} {E : List Op5} (h : DlE w B1 B2 v E) : ∀ o ∈ E, o.A.length ≤ 2097152 := fun o ho => by have := (h.fit o ho).n; omega
theorem DlE.sums {w : World} {B1 B2 : Nat} {v : Value} {E : List Op5} (h : DlE w B1 B2 v E) : (0 ≤ sumK8 E ∧ sumK8 E ≤ 1099511627776) ∧ (0 ≤ sumI8 E ∧ sumI8 E ≤ 1099511627776) ∧ (0 ≤ sumD8 E ∧ sumD8 E ≤ 1099511627776) ∧ sumB E = sumK8 E + sumD8 E ∧ sumR E = sumK8 E + sumI8 E := by
  have h1 := sums_three h.wel
  have h2 := h.fits
  unfold Fits8 at h2
  omega
theorem count_any8 {B1 B2 : Nat} (v : Value) (E : List Op5) (w : World) (h : DlE w B1 B2 v E) :
    Calls Tryz.prog 87 #[v] w fun e w' => e = .returned (.agg (cnt8 (sumK8 E) (sumI8 E) (sumD8 E))) ∧ Below w.heap.size w w' :=
  count8_any v E w h.d h.g h.n (Nat.le_trans h.len (by decide)) h.fits
theorem base8_any {B1 B2 : Nat} (v : Value) (E : List Op5) (w : World) (h : DlE w B1 B2 v E) :
    Calls Tryz.prog 114 #[v] w fun e w' => e = .returned (.int .i64 (sumB E)) ∧ Below w.heap.size w w' := by
  have c := count_any8 v E w h
  have hs := h.sums
  have c2 := fun W => cbase_any (sumK8 E) (sumI8 E) (sumD8 E) W ⟨hs.1, hs.2.2.1⟩
  rw [← hs.2.2.2.1] at c2
  obtain ⟨q, pv, PL, rfl, _⟩ := h.d
  clear hs h
  go_enter Tryz.func114, Tryz.ntmps114
  go_wp2_with fail
  refine c.mono ?_; rintro r w2 ⟨rfl, b2⟩
  go_wp2_with fail
  refine (c2 _).mono ?_; rintro r w3 ⟨rfl, b3⟩
  have b := b2.trans (b3.mono b2.size)
  go_wp2
  go_ret
  exact ⟨rfl, b⟩
theorem result8_any {B1 B2 : Nat} (v : Value) (E : List Op5) (w : World) (h : DlE w B1 B2 v E) :
    Calls Tryz.prog 37 #[v] w fun e w' => e = .returned (.int .i64 (sumR E)) ∧ Below w.heap.size w w' := by
  have c := count_any8 v E w h
  have hs := h.sums
  have c2 := fun W => cresult_any (sumK8 E) (sumI8 E) (sumD8 E) W ⟨hs.1, hs.2.1⟩
  rw [← hs.2.2.2.2] at c2
  obtain ⟨q, pv, PL, rfl, _⟩ := h.d
  clear hs h
  go_enter Tryz.func37, Tryz.ntmps37
  go_wp2_with fail
  refine c.mono ?_; rintro r w2 ⟨rfl, b2⟩
  go_wp2_with fail
  refine (c2 _).mono ?_; rintro r w3 ⟨rfl, b3⟩
  have b := b2.trans (b3.mono b2.size)
  go_wp2
  go_ret
  exact ⟨rfl, b⟩
theorem doc8_any {B1 B2 : Nat} (v : Value) (E : List Op5) (w : World) (h : DlE w B1 B2 v E) :
    Calls Tryz.prog 83 #[v] w fun e w' => e = .returned (.bool (sumB E == 0)) ∧ Below w.heap.size w w' := by
  have c := base8_any v E w h
  obtain ⟨q, pv, PL, rfl, _⟩ := h.d
  clear h
  go_enter Tryz.func83, Tryz.ntmps83
  go_wp2_with fail
  refine c.mono ?_; rintro r w2 ⟨rfl, b2⟩
  go_wp2
  go_ret
  exact ⟨rfl, b2⟩
theorem pieD_append {w : World} {B : Nat} {P1 P2 : List Value} {E F : List Op5} (h : PieD w B P1 E) (k : PieD w B P2 F) : PieD w B (P1 ++ P2) (E ++ F) := forall2_append h k
theorem cat_bounds {E F : List Op5} (gE : ∀ o ∈ E, opE o = 0) (gF : ∀ o ∈ F, opE o = 0) : ∀ o ∈ E ++ F, opE o = 0 := fun o ho => (List.mem_append.1 ho).elim (gE o) (gF o)
/-- What Concat answers. -/
def CatR (a : Nat → Addr) (w w' : World) (L : List Op5) (dv er : Value) : Prop :=
  (Fits8 L → er = .nilIface ∧ DelV w' w.heap.size w.heap.size dv (canonL L)) ∧ (¬ Fits8 L → er = errV a 10 ∧ dv = .pointer none)
theorem delV_low {w : World} {B1 B2 C : Nat} {v : Value} {E : List Op5} (h : DelV w B1 B2 v E) (h1 : C ≤ B1) (h2 : C ≤ B2) : DelV w C C v E := by
  obtain ⟨q, pv, PL, x1, x2, x3, x4, x5⟩ := h
  exact ⟨q, pv, PL, x1, Nat.le_trans h1 x2, x3, own_weaken x4 h1, x5.weaken h2⟩
end Go.Proofs.YthfpmhnnjjikcaaGreatDoor
