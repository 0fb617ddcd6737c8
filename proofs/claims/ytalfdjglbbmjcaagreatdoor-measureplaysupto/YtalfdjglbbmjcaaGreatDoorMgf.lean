/- vellumhand.Attrs: where the copy lies; what writing over a list leaves of others. build: Pieces: each piece's list lies in blocks of its own. What Each's function hands over, for whatever loop body. One list behind another, in canonical form, by units: sums, brackets, what a cut takes. measure: count: how many cells a delta keeps, makes and takes away; Base, Result, Inserted, Deleted, Document. measure: Base, Result, Inserted, Deleted, Document, Concat, Shift. A piece cut in two. The Walker's calls. measure: Shift. What vellumref04.Refuse and Check answer: what an insert is refused with. What vellumref04.Length answers of inserts. The document's answers for ops: empty, Check, Length, apart. The document's answers for lists of operations: Bad, Lengths, Canonical. -/
import Derived.Test.YtalfdjglbbmjcaaGreatDoorMge
import Derived.RangeFuncNested
import Derived.RangeFuncBound
import Derived.RangeFuncCalls
import Derived.RangeFuncLeaves
import Derived.Shelf.Abstract
import Derived.Shelf.RegionOpen
import Derived.WalkKit
import Derived.OwnWalkIn
import Derived.TacticsInMore
import Derived.LoopNIn
import Derived.LoopIn
import Derived.Test.YtalfdjglbbmjcaaGreatDoorMgd
import Derived.Stop.RegionWithIn
import Derived.Test.YtalfdjglbbmjcaaGreatDoorMgc
import Derived.Test.YtalfdjglbbmjcaaGreatDoorCf
import Derived.Test.YtalfdjglbbmjcaaGreatDoorCp
import Derived.BigRegion
import Derived.Deep.RegionHeld3
import Derived.Deep.DeepCutAuto
import Derived.Deep.RegionWith
import Derived.Test.YtalfdjglbbmjcaaGreatDoorSw
import Derived.Test.YtalfdjglbbmjcaaGreatDoorMga

/- vellumhand.Attrs: where the copy lies; what writing over a list leaves of others. -/
namespace Go.Proofs.YtalfdjglbbmjcaaGreatDoor
open Go Go.RowKit Go.Lib
set_option linter.unusedVariables false

/-- A copy with two more behind its end, in a block between two marks. -/
def HandO (w : World) (lo hi : Nat) (v : Value) (A : List A2) : Prop :=
  (A = [] ∧ v = .slice none 0 0) ∨ ∃ g c, A ≠ [] ∧ v = .slice (some ⟨g, 0, none⟩) A.length c ∧ g < hi ∧ OwnA w lo (.slice (some ⟨g, 0, none⟩) (A ++ [s1, s2]).length c) (A ++ [s1, s2])
/-- A row of the call's own in a block between two marks. -/
structure InA (w : World) (lo hi : Nat) (v : Value) (A : List A2) : Prop where
  own : OwnA w lo v A
  top : ∀ k, v.ownBlock = some k → k < hi
theorem InA.new {w : World} {B : Nat} {v : Value} {A : List A2} (h : OwnA w B v A) : InA w B w.heap.size v A :=
  ⟨h, fun k hk => by obtain ⟨_, cur, hc⟩ := owns_block h k hk; exact (Array.getElem?_eq_some_iff.1 hc).1⟩
theorem InA.below {w w' : World} {lo hi : Nat} {v : Value} {A : List A2} (h : InA w lo hi v A) (b : Below w.heap.size w w') : InA w' lo hi v A := ⟨owns_below h.own b, h.top⟩
theorem InA.out {w w' : World} {lo hi a b : Nat} {v : Value} {A : List A2} (h : InA w lo hi v A) (u : Out a b w w') (d : hi ≤ a ∨ b ≤ lo) : InA w' lo hi v A :=
  ⟨owns_same h.own fun k hk => by
    obtain ⟨h1, cur, h2⟩ := owns_block h.own k hk
    have := h.top k hk
    exact u.block k (Array.getElem?_eq_some_iff.1 h2).1 (by omega), h.top⟩
theorem InA.row {w : World} {lo hi : Nat} {v : Value} {A : List A2} (h : InA w lo hi v A) : RowA w v A := own_rowA h.own
theorem LiR.of_own {w : World} {lo hi B : Nat} {v : Value} {A : List A2} (h : InA w lo hi v A) : LiR w lo hi B v A.length := by
  rcases h.own.2 with h1 | ⟨g, cap, cur, h1, h2, h3, h4, h5, h6, _⟩
  · exact Or.inl h1
  · exact Or.inr ⟨g, cap, cur, h1, Or.inl ⟨h2, h.top g (by rw [h1]; rfl)⟩, h3, h4, h6⟩
theorem HandO.below {w w' : World} {lo hi : Nat} {v : Value} {A : List A2} (h : HandO w lo hi v A) (b : Below w.heap.size w w') : HandO w' lo hi v A := by
  rcases h with h | ⟨g, c, h1, h2, h3, h4⟩
  · exact Or.inl h
  · exact Or.inr ⟨g, c, h1, h2, h3, owns_below h4 b⟩
theorem HandO.out {w w' : World} {lo hi a b : Nat} {v : Value} {A : List A2} (h : HandO w lo hi v A) (u : Out a b w w') (d : hi ≤ a ∨ b ≤ lo) : HandO w' lo hi v A := by
  rcases h with h | ⟨g, c, h1, h2, h3, h4⟩
  · exact Or.inl h
  · exact Or.inr ⟨g, c, h1, h2, h3, ((InA.mk h4 (fun k hk => by simp only [Value.ownBlock, Option.some.injEq] at hk; omega) : InA w lo hi _ _).out u d).own⟩
theorem HandO.hand {w : World} {lo hi : Nat} {v : Value} {A : List A2} (h : HandO w lo hi v A) : HandA w v A := by
  rcases h with ⟨rfl, rfl⟩ | ⟨g, c, h1, rfl, h3, h4⟩
  · exact ⟨fun m c h => by simp only [Value.slice.injEq] at h; exact ⟨h.2.1.symm, h.2.2.symm⟩, RowA.nil _ _ _, fun h => absurd rfl h⟩
  · have hr := own_rowA h4
    have hl : (A ++ [s1, s2]).length = A.length + 2 := by simp
    rw [hl] at hr
    obtain ⟨p', c', e', hc', hr'⟩ := hr
    simp only [Value.slice.injEq] at e'
    obtain ⟨rfl, hL, rfl⟩ := e'
    rw [hl] at hc'
    refine ⟨fun m c h => by simp at h, ⟨_, _, rfl, by omega, fun j x hx => hr' j x (by rw [List.getElem?_append_left (List.getElem?_eq_some_iff.1 hx).1]; exact hx)⟩, fun _ => ⟨_, _, rfl, hc', ⟨_, _, by rw [hl], by rw [hl]; exact hc', hr'⟩⟩⟩
theorem HandO.li {w : World} {lo hi B : Nat} {v : Value} {A : List A2} (h : HandO w lo hi v A) : LiR w lo hi B v A.length := by
  rcases h with ⟨rfl, rfl⟩ | ⟨g, c, h1, rfl, h3, h4⟩
  · exact Or.inl ⟨rfl, rfl⟩
  · rcases h4.2 with ⟨_, h5⟩ | ⟨g', cap, cur, h5, h6, h7, h8, h9, h10, _⟩
    · simp at h5
    · simp only [Value.slice.injEq, Option.some.injEq, Addr.mk.injEq, and_true, true_and] at h5
      obtain ⟨rfl, -, rfl⟩ := h5
      exact Or.inr ⟨g, c, cur, rfl, Or.inl ⟨h6, h3⟩, h7, by simp at h8; omega, h10⟩
set_option maxHeartbeats 2000000 in
set_option maxRecDepth 100000 in
theorem hattrs_own (v : Value) (A : List A2) (w : World) (hA : RowA w v A) (hl : A.length ≤ 1048576) :
    Calls Tryz.prog 62 #[v] w fun r w' => ∃ v', r = .returned v' ∧ HandO w' w.heap.size w'.heap.size v' A ∧ Below w.heap.size w w' := by
  obtain ⟨n, hn⟩ : ∃ n, A.length = n := ⟨_, rfl⟩
  obtain ⟨p, cap, rfl, hcap, hc⟩ := hA
  rw [hn] at hl hcap ⊢
  have HN : Hid (A.length = n) := hn
  have HC : Hid _ := hc
  clear hc hn
  by_cases h0 : n = 0
  · subst h0
    obtain rfl : A = [] := List.eq_nil_of_length_eq_zero HN.out
    go_enter Tryz.func62, Tryz.ntmps62
    go_wp2
    go_ret
    exact ⟨.slice none 0 0, rfl, Or.inl ⟨rfl, rfl⟩, Below.refl _ _⟩
  · have h0I : ((n : Int) == 0) = false := by simp; omega
    obtain ⟨q, hq⟩ : ∃ q, A[0]? = some q := ⟨_, List.getElem?_eq_getElem (by rw [HN.out]; omega)⟩
    obtain ⟨b, off, rfl, _⟩ := HC.out 0 q hq
    have hne : A ≠ [] := fun e => by have := HN.out; rw [e] at this; exact h0 this.symm
    have HE : Hid (A ≠ []) := hne
    clear hq hne h0
    have oE := own_empty' w w.heap.size (Nat.le_refl _)
    have bE := (Below.refl w.heap.size w).alloc (Nat.le_refl _) (.cells #[] 160)
    have hM : Hid (∀ (j : Nat) (x : A2), A[j]? = some x → PairAt (w.alloc (.cells #[] 160)) b (off + j * 4) x) := fun j x hx => by
      obtain ⟨b', off', he, h⟩ := HC.out j x hx
      cases he
      exact h.below bE
    have hL0 : ([] : List A2).length + n ≤ 2097152 := by simp; omega
    go_enter Tryz.func62, Tryz.ntmps62
    go_wp2_with (first
      | (at_builtin; refine wpList_append_atx rfl (.tmp 7) (.tmp 8) rfl w.heap.size (.slice (some ⟨w.heap.size, 0, none⟩) 0 0) [] rfl oE b off n cap A rfl HN.out hM.out hL0 bE.size ?_; intro v9 w9 own9 gr9 hat9; have b10 := (bE.grown gr9 bE.size (fun j hj => by simp only [Value.ownBlock, Option.some.injEq] at hj; omega)).alloc (by have h0 := gr9.size; have h1 := bE.size; omega) (.cells #[.string ⟨#[115, 112, 97, 114, 101]⟩, .int .i64 0, .int .i64 0, .string ⟨#[]⟩, .string ⟨#[114, 111, 111, 109]⟩, .int .i64 0, .int .i64 0, .string ⟨#[]⟩] 160); have O9 : Hid (OwnA w9 w.heap.size v9 A) := own9; have O10 : Hid (OwnA (w9.alloc (.cells #[.string ⟨#[115, 112, 97, 114, 101]⟩, .int .i64 0, .int .i64 0, .string ⟨#[]⟩, .string ⟨#[114, 111, 111, 109]⟩, .int .i64 0, .int .i64 0, .string ⟨#[]⟩] 160)) w.heap.size v9 A) := owns_below O9.out ((Below.refl _ _).alloc (Nat.le_refl _) _); have hL1 : Hid (A.length + 2 ≤ 2097152) := (by show _ ≤ _; rw [HN.out]; omega); have hge : Hid (∀ j, v9.ownBlock = some j → w.heap.size ≤ j) := (fun j hj => (owns_block O10.out j hj).1); clear own9 gr9 hat9 oE bE hM O9)
      | (at_builtin; refine wpList_append_atx rfl (.tmp 9) (.tmp 12) rfl w.heap.size v9 A rfl O10.out w9.heap.size 0 2 2 [s1, s2] rfl rfl (two_at ⟨by simp, by simp, by simp, by simp⟩ ⟨by simp, by simp, by simp, by simp⟩) hL1.out b10.size ?_; intro v11 w11 own11 gr11 hat11; have b11 := b10.grown gr11 b10.size (fun j hj => hge.out j hj); obtain ⟨p11, c11, e11, hc11, hr11⟩ := own_rowA own11; rw [show (A ++ [s1, s2]).length = n + 2 by simp [HN.out]] at e11 hc11; subst e11; have HR : Hid (OwnA w11 w.heap.size (.slice p11 (n + 2) c11) (A ++ [s1, s2])) := own11; have hcI : n ≤ c11 := (by omega); clear own11 gr11 hat11 O10 b10 hge hr11))
    go_ret
    have ho := HR.out
    rcases HR.out.2 with ⟨h1, _⟩ | ⟨g, cap, cur, h1, h2, h3, h4, h5, h6, h7⟩
    · simp at h1
    · simp only [Value.slice.injEq] at h1
      obtain ⟨rfl, -, rfl⟩ := h1
      exact ⟨_, rfl, Or.inr ⟨g, c11, HE.out, by rw [HN.out]; rfl, (Array.getElem?_eq_some_iff.1 h3).1, by rw [show (A ++ [s1, s2]).length = n + 2 by simp [HN.out]]; exact ho⟩, b11⟩
end Go.Proofs.YtalfdjglbbmjcaaGreatDoor

/- build: Pieces: each piece's list lies in blocks of its own. -/
namespace Go.Proofs.YtalfdjglbbmjcaaGreatDoor
open Go Go.RowKit Go.Lib
set_option linter.unusedVariables false

/-- Marks that rise from lo on, the first k + 1 of them up to hi. -/
structure MonZ (lo hi k : Nat) (Z : Nat → Nat) : Prop where
  mono : ∀ j, Z j ≤ Z (j + 1)
  zero : Z 0 = lo
  top : Z k ≤ hi
theorem MonZ.up {lo hi hi' k : Nat} {Z : Nat → Nat} (h : MonZ lo hi k Z) (hh : hi ≤ hi') : MonZ lo hi' k Z := ⟨h.mono, h.zero, Nat.le_trans h.top hh⟩
theorem MonZ.le {lo hi k : Nat} {Z : Nat → Nat} (h : MonZ lo hi k Z) : ∀ {i j : Nat}, i ≤ j → Z i ≤ Z j := fun {i j} hij => by
  induction j with
  | zero => obtain rfl : i = 0 := by omega
            exact Nat.le_refl _
  | succ j ih =>
    rcases Nat.lt_or_ge i (j + 1) with h1 | h1
    · exact Nat.le_trans (ih (by omega)) (h.mono j)
    · obtain rfl : i = j + 1 := by omega
      exact Nat.le_refl _
/-- Pieces, the list of the k-th between the k-th mark and the next. -/
def PieZ (w : World) (Z : Nat → Nat) (P : List Value) (E : List Op5) : Prop := P.length = E.length ∧ ∀ (k : Nat) (x : Value) (e : Op5), P[k]? = some x → E[k]? = some e → ∃ s, x = pieceQ e s ∧ InA w (Z k) (Z (k + 1)) s e.A
theorem InA.keep {w w' : World} {lo hi : Nat} {v : Value} {A : List A2} (h : InA w lo hi v A) (k : KeepA w w') : InA w' lo hi v A := ⟨keepA_own h.own k, h.top⟩
theorem PieZ.keep {w w' : World} {Z : Nat → Nat} {P : List Value} {E : List Op5} (h : PieZ w Z P E) (b : KeepA w w') : PieZ w' Z P E :=
  ⟨h.1, fun k x e hx he => by obtain ⟨s, h1, h2⟩ := h.2 k x e hx he; exact ⟨s, h1, h2.keep b⟩⟩
theorem PieZ.below {w w' : World} {Z : Nat → Nat} {P : List Value} {E : List Op5} (h : PieZ w Z P E) (b : Below w.heap.size w w') : PieZ w' Z P E := h.keep (keepA_below b)
theorem PieZ.snoc {w : World} {Z : Nat → Nat} {P : List Value} {E : List Op5} {x s : Value} {e : Op5} {lo l0 k : Nat} (hZ : MonZ l0 lo k Z) (h : PieZ w Z P E) (hk : P.length = k) (hx : x = pieceQ e s) (hs : OwnA w lo s e.A) (hlw : lo ≤ w.heap.size) :
    MonZ l0 w.heap.size (k + 1) (fun j => if j ≤ k then Z j else w.heap.size) ∧ PieZ w (fun j => if j ≤ k then Z j else w.heap.size) (P ++ [x]) (E ++ [e]) := by
  have hkw : ∀ j, j ≤ k → Z j ≤ w.heap.size := fun j hj => Nat.le_trans (hZ.le hj) (Nat.le_trans hZ.top hlw)
  refine ⟨⟨fun j => ?_, ?_, ?_⟩, by rw [List.length_append, List.length_append, h.1]; rfl, fun j y f hy hf => ?_⟩
  · by_cases h1 : j + 1 ≤ k
    · rw [if_pos (by omega), if_pos h1]; exact hZ.mono j
    · rw [if_neg h1]
      by_cases h2 : j ≤ k
      · rw [if_pos h2]; exact hkw j h2
      · rw [if_neg h2]; exact Nat.le_refl _
  · rw [if_pos (Nat.zero_le _)]; exact hZ.zero
  · rw [if_neg (by omega)]; exact Nat.le_refl _
  · have hj : j < P.length + 1 := by have := (List.getElem?_eq_some_iff.1 hy).1; rw [List.length_append] at this; exact this
    rcases Nat.lt_or_ge j P.length with h1 | h1
    · rw [List.getElem?_append_left h1] at hy
      rw [List.getElem?_append_left (by rw [← h.1]; exact h1)] at hf
      simp only []
      rw [if_pos (show j ≤ k by omega), if_pos (show j + 1 ≤ k by omega)]
      exact h.2 j y f hy hf
    · obtain rfl : j = P.length := by omega
      rw [List.getElem?_append_right (Nat.le_refl _), Nat.sub_self] at hy
      rw [List.getElem?_append_right (by rw [h.1]; exact Nat.le_refl _), h.1, Nat.sub_self] at hf
      simp only [List.getElem?_cons_zero, Option.some.injEq] at hy hf
      subst hy; subst hf
      simp only []
      rw [if_pos (show P.length ≤ k by omega), if_neg (show ¬ P.length + 1 ≤ k by omega)]
      refine ⟨s, hx, own_weaken hs (by rw [hk]; exact hZ.top), fun j hj => ?_⟩
      obtain ⟨_, cur, hc⟩ := owns_block hs j hj
      exact (Array.getElem?_eq_some_iff.1 hc).1
set_option maxHeartbeats 4000000 in
set_option maxRecDepth 100000 in
theorem piecesZ_any {B1 B2 : Nat} (v : Value) (E : List Op5) (w : World) (h : DelV w B1 B2 v E) (hg : ∀ o ∈ E, opE o = 0) (hA : ∀ o ∈ E, o.A.length ≤ 2097152) (hl : E.length ≤ 4194304) :
    Calls Tryz.prog 85 #[v] w fun e w' => ∃ v', e = .returned v' ∧ (∃ P, OwnI w' w.heap.size v' P ∧ ∃ Z, MonZ w.heap.size w'.heap.size E.length Z ∧ PieZ w' Z P E) ∧ Below w.heap.size w w' := by
  obtain ⟨q, pv, PL, rfl, _, hq, hrow, hpie⟩ := h
  have c0 : w.cell? ⟨q, 0, none⟩ = some pv := by rw [cell_of_heap hq]; rfl
  obtain ⟨p, cap, rfl, hrd⟩ := del_read (q := q) hrow hpie
  have HV : Hid (∀ k, k < E.length → ∃ ga e s, p = some ⟨ga, 0, none⟩ ∧ E[k]? = some e ∧ w.cell? ⟨ga, k, none⟩ = some (pieceQ e s) ∧ OwnA w B2 s e.A) := hrd
  have HG : Hid (∀ o ∈ E, opE o = 0 ∧ o.A.length ≤ 2097152) := fun o ho => ⟨hg o ho, hA o ho⟩
  obtain ⟨n, hn⟩ : ∃ n, E.length = n := ⟨_, rfl⟩
  have HN : Hid (E.length = n) := hn
  rw [hn] at c0 hl HV
  clear hq hrow hpie hrd hg hA hn
  go_enter Tryz.func85, Tryz.ntmps85
  go_wp2_with (at_make; refine wpList_make_pi2 _ rfl _ _ rfl w.heap.size .i64 .i64 _ n rfl rfl rfl (by omega) (Nat.le_refl _) ?_; intro v0 w1 hown hgr; have hb1 : Below w.heap.size w w1 := (Below.refl _ _).grown hgr (Nat.le_refl _) (fun k hk => by cases hk); have c1 := (hb1.cell (lt_of_cell c0)).trans c0; clear hgr)
  go_loopw [3, 17] (fun al i wr => ∃ (k : Nat) (D : List Value), k ≤ n ∧ i = .int .i64 k ∧ D.length = k ∧ OwnI wr w.heap.size al D ∧ Hid (∃ Z, MonZ w.heap.size wr.heap.size k Z ∧ PieZ wr Z D (E.take k)) ∧ Below w.heap.size w wr) (fun _ i _ => n - (RowKit.intOf i).toNat)
  case atStart => exact ⟨0, [], Nat.zero_le _, rfl, rfl, hown, ⟨fun _ => w.heap.size, ⟨fun _ => Nat.le_refl _, rfl, hb1.size⟩, by rw [List.take_zero]; exact ⟨rfl, fun k x e h => by simp at h⟩⟩, hb1⟩
  case round =>
    clear hown hb1 c1
    obtain ⟨k, D, hk, rfl, hDl, hown, hsp, hbw⟩ := hrel
    by_cases hlt : k < n
    · have hltI : (k : Int) < n := by omega
      obtain ⟨ga, e, s, rfl, he, hc, hs⟩ := HV.out k hlt
      have c2 := (hbw.cell (lt_of_cell hc)).trans hc
      have hs2 := owns_below hs hbw
      obtain ⟨hg1, hA1⟩ := HG.out e (List.mem_of_getElem? he)
      have HT : Hid (E.take (k + 1) = E.take k ++ [e]) := by show _ = _; rw [List.take_add_one, he]; rfl
      have hge : Hid (∀ j, u3.ownBlock = some j → w.heap.size ≤ j) := fun j hj => (owns_block hown j hj).1
      have HO : Hid (OwnI wr w.heap.size u3 D) := hown
      have hlen : D.length ≤ 8388608 := by omega
      have hlz : w.heap.size ≤ wr.heap.size := hbw.size
      have cO := ownP_any e s wr hg1 (own_RN hs2) hA1
      obtain ⟨u, x, hux⟩ := pieceQ_if e s
      have hq := fun s' => pieceQ_if e s'
      obtain ⟨PQ, hPQ⟩ : ∃ f : Value → Value, pieceQ e = f := ⟨_, rfl⟩
      have HPQ : Hid (pieceQ e = PQ) := hPQ
      rw [hPQ] at cO hux hq
      rw [hPQ] at c2
      rw [hux] at c2 cO
      have HSP : Hid _ := hsp.out
      clear he hc hs hs2 hown hsp hg1 hA1 hux hPQ
      go_wp2_with fail
      refine cO.mono ?_; rintro r w5 ⟨s', rfl, own5, hb5⟩
      obtain ⟨u', x', hux'⟩ := hq s'
      have HU : Hid (PQ s' = .iface u' x') := hux'
      rw [hux']
      have bw5 : Below w.heap.size w w5 := hbw.trans (hb5.mono hlz)
      have ba : Below w5.heap.size w5 (w5.alloc (.cells #[.iface u' x'] 56)) := (Below.refl _ _).alloc (Nat.le_refl _) _
      have hu6 : (w5.alloc (.cells #[.iface u' x'] 56)).cell? ⟨w5.heap.size, 0, none⟩ = some (.iface u' x') := by simp
      have HO7 : Hid (OwnI (w5.alloc (.cells #[.iface u' x'] 56)) w.heap.size u3 D) := owns_below (owns_below HO.out hb5) ba
      have HP7 : Hid (∃ Z, MonZ w.heap.size (w5.alloc (.cells #[.iface u' x'] 56)).heap.size (k + 1) Z ∧ PieZ (w5.alloc (.cells #[.iface u' x'] 56)) Z (D ++ [.iface u' x']) (E.take (k + 1))) := by
        show ∃ Z, _
        rw [HT.out]
        obtain ⟨Z, hZ, hP⟩ := HSP.out
        have hlk : D.length = k := hDl
        obtain ⟨a1, a2⟩ := PieZ.snoc (lo := wr.heap.size) (s := s') (x := .iface u' x') (e := e) hZ ((hP.below hb5).below ba) hlk (by rw [HPQ.out, HU.out]) (owns_below own5 ba) (Nat.le_trans hb5.size ba.size)
        exact ⟨_, a1, a2⟩
      have bw7 := bw5.trans (ba.mono bw5.size)
      clear own5 hb5 bw5 ba HO HT cO c2 hux' hq HSP
      go_wp2_with (at_builtin; refine wpList_append_piAt rfl (.tmp 21) (.tmp 24) rfl w.heap.size u3 D rfl HO7.out w5.heap.size 1 (.iface u' x') rfl hu6 rfl hlen bw7.size ?_; intro v8 w8 own8 gr8 hat8; have hsp8 : Hid (∃ Z, MonZ w.heap.size w8.heap.size (k + 1) Z ∧ PieZ w8 Z _ _) := (by obtain ⟨Z, h1, h2⟩ := HP7.out; exact ⟨Z, h1.up gr8.size, h2.keep (keepA_grownI HO7.out gr8)⟩); have b8 := bw7.grown gr8 bw7.size (fun j hj => hge.out j hj); have HO8 : Hid (OwnI w8 w.heap.size v8 _) := own8; clear own8 gr8 hat8 HO7 HP7 hu6)
      go_roundw
      case rel => exact ⟨k + 1, _, by omega, by go_num, by simp [hDl], HO8.out, hsp8, b8⟩
      case measure => simp [RowKit.intOf]; omega
    · have hltI : ¬ (k : Int) < n := by omega
      have hE : E.take k = E := List.take_of_length_le (by rw [HN.out]; omega)
      have hkn : k = n := by omega
      rw [hE] at hsp; have hsp := hsp.out
      have HX : Hid (∃ P, OwnI wr w.heap.size u3 P ∧ ∃ Z, MonZ w.heap.size wr.heap.size E.length Z ∧ PieZ wr Z P E) := by obtain ⟨Z, h1, h2⟩ := hsp; exact ⟨D, hown, Z, by rw [HN.out, ← hkn]; exact h1, h2⟩
      clear hown hsp
      go_wp2
      go_ret
      exact ⟨u3, rfl, HX.out, hbw⟩
end Go.Proofs.YtalfdjglbbmjcaaGreatDoor

/- What Each's function hands over, for whatever loop body. -/
namespace Go.Proofs.YtalfdjglbbmjcaaGreatDoor
open Go Go.RowKit Go.Lib Go.Shelf
set_option linter.unusedVariables false
attribute [local go_sem] Oper.semAt_some

/-- A delta in a box. -/
def BoxD (w : World) (x : Nat) (B1 B2 : Nat) (E : List Op5) : Prop := ∃ v, w.cell? ⟨x, 0, none⟩ = some v ∧ DelV w B1 B2 v E
theorem BoxD.below {w w' : World} {x B1 B2 : Nat} {E : List Op5} (h : BoxD w x B1 B2 E) (b : Below w.heap.size w w') : BoxD w' x B1 B2 E := by
  obtain ⟨v, h1, h2⟩ := h
  exact ⟨v, (b.cell (lt_of_cell h1)).trans h1, h2.below b⟩
theorem each7_call {B1 B2 : Nat} (v : Value) (E : List Op5) (w : World) (h : DelV w B1 B2 v E) :
    Calls Tryz.prog 76 #[v] w fun r w' => ∃ x, r = .returned (.func (.func 112) #[] #[.pointer (some ⟨x, 0, none⟩)]) ∧ BoxD w' x B1 B2 E ∧ w.heap.size ≤ x ∧ Below w.heap.size w w' := by
  have bA : Below w.heap.size w (w.alloc (.cells #[v] 36)) := (Below.refl _ _).alloc (Nat.le_refl _) _
  have HD : Hid (DelV (w.alloc (.cells #[v] 36)) B1 B2 v E) := h.below bA
  obtain ⟨q, pv, PL, rfl, _⟩ := h
  go_enter Tryz.func76, Tryz.ntmps76
  go_wp2
  go_ret
  exact ⟨_, rfl, ⟨_, by simp, HD.out⟩, Nat.le_refl _, bA⟩

/-- A piece that is handed over, the blocks among which its list lies. -/
abbrev PZ : Type := Value × Nat × Nat
abbrev encZ (x : PZ) : Array Value := #[x.1]
def GZ (E : List Op5) (B0 : Nat) (pre : List PZ) (x : PZ) (W : World) : Prop := ∃ e s, E[pre.length]? = some e ∧ x.1 = pieceQ e s ∧ InA W x.2.1 x.2.2 s e.A ∧ B0 ≤ x.2.1 ∧ x.2.2 ≤ W.heap.size
/-- What a round keeps: the pieces, and all lists but the one that was handed over. -/
structure KZ (pre : List PZ) (x : PZ) (A A' : World) : Prop where
  size : A.heap.size ≤ A'.heap.size
  pie : ∀ (k : Nat) (cs : Array Value), A.heap[k]? = some (.cells cs 56 (0, 0)) → A'.heap[k]? = some (.cells cs 56 (0, 0))
  att : ∀ (k : Nat) (cs : Array Value), A.heap[k]? = some (.cells cs 160 (0, 0)) → (k < x.2.1 ∨ x.2.2 ≤ k) → A'.heap[k]? = some (.cells cs 160 (0, 0))
theorem ina_same {w w' : World} {lo hi : Nat} {v : Value} {A : List A2} (h : InA w lo hi v A) (hk : ∀ (k : Nat) (cs : Array Value), w.heap[k]? = some (.cells cs 160 (0, 0)) → lo ≤ k → k < hi → w'.heap[k]? = some (.cells cs 160 (0, 0))) : InA w' lo hi v A := by
  obtain ⟨h1, h2⟩ := h
  refine ⟨owns_same h1 fun k e => ?_, h2⟩
  obtain ⟨b1, cs, b2⟩ := owns_block h1 k e
  rw [b2]
  exact hk k cs b2 b1 (h2 k e)
theorem GZ.bk {E : List Op5} {B0 B : Nat} {pre : List PZ} {x : PZ} {A A' : World} (h : GZ E B0 pre x A) (k : Bk7 B A A') : GZ E B0 pre x A' := by
  obtain ⟨e, s, h1, h2, h3, h4, h5⟩ := h
  exact ⟨e, s, h1, h2, ina_same h3 fun j cs hj _ _ => k.kept j _ hj (.inr rfl), h4, Nat.le_trans h5 k.size⟩
theorem KZ.bk {B : Nat} {pre : List PZ} {x : PZ} {A A' C C' : World} (k1 : Bk7 B A A') (h : KZ pre x A' C) (k2 : Bk7 B C C') : KZ pre x A C' :=
  ⟨Nat.le_trans k1.size (Nat.le_trans h.size k2.size), fun k cs hk => k2.kept k _ (h.pie k cs (k1.kept k _ hk (.inr rfl))) (.inr rfl), fun k cs hk ho => k2.kept k _ (h.att k cs (k1.kept k _ hk (.inr rfl)) ho) (.inr rfl)⟩
set_option maxHeartbeats 4000000 in
set_option maxRecDepth 100000 in
theorem each7_seq (E : List Op5) (w0 : World) (x B1 B2 : Nat) (hT : BoxD w0 x B1 B2 E) (hg : ∀ o ∈ E, opE o = 0) (hA : ∀ o ∈ E, o.A.length ≤ 2097152) (hl : E.length ≤ 4194304) (n : Nat) (hn : 2 ≤ n) :
    SeqG Fence.wide n Tryz.prog 112 #[.pointer (some ⟨x, 0, none⟩)] encZ (fun _ => False) (GZ E w0.heap.size) KZ (fun xs => xs.length = E.length) w0 := fun l J Jx W hW hJ hJx hY h0 => by
  obtain ⟨v, hx, hd⟩ := hT
  have c0 : W.cell? ⟨x, 0, none⟩ = some v := (hW.cell (lt_of_cell hx)).trans hx
  have cP := piecesZ_any v E W (hd.below hW) hg hA hl
  have hz0 : w0.heap.size ≤ W.heap.size := hW.size
  obtain ⟨m, hm⟩ : ∃ m, E.length = m := ⟨_, rfl⟩
  have HM : Hid (E.length = m) := hm
  have HJ : Hid (∀ p W1 W2, J p W1 → Below W1.heap.size W1 W2 → J p W2) := fun p W1 W2 h1 h2 => hJ p W1 W2 h1 (It7.of_below h2)
  have HY : Hid (∀ pre x W1, J pre W1 → GZ E w0.heap.size pre x W1 → YieldAt Fence.wide (n - 1) Tryz.prog l (encZ x) W1 fun e W' =>
      (e = .returned (.bool true) ∧ J (pre ++ [x]) W' ∧ KZ pre x W1 W') ∨ (e = .returned (.bool false) ∧ Jx (pre ++ [x]) W')) := hY
  rw [hm] at hl ⊢
  clear hY hJ hJx hx hd hg hA hW hm
  refine callsIn_of_wp Tryz.func112 rfl trivial ?_ rfl
  simp only [Tryz.ntmps112, List.size_toArray, List.length_cons, List.length_nil, Nat.reduceAdd, Nat.reduceSub, Array.replicate_succ, Array.replicate_zero, List.push_toArray, List.append_toArray, List.nil_append, List.cons_append]
  gi_wp2
  refine ⟨trivial, (fun _ => Nat.le_trans (by decide) hn), (callsIn_wide.2 cP).mono ?_⟩
  rintro r w2 ⟨v', rfl, ⟨P, own, Z, hZ, hP⟩, hb2⟩
  have hPE : P.length = m := hP.1.trans HM.out
  obtain ⟨p, cap, hv⟩ := own_slice own
  have H2 : Hid (OwnI w2 W.heap.size v' P ∧ ∀ (j : Nat) (x : Value) (e : Op5), 0 ≤ j → P[j]? = some x → E[j]? = some e → ∃ s, x = pieceQ e s ∧ InA w2 (Z j) (Z (j + 1)) s e.A) := ⟨own, fun j x e _ h1 h2 => hP.2 j x e h1 h2⟩
  have HZ : Hid (MonZ W.heap.size w2.heap.size m Z ∧ w0.heap.size ≤ W.heap.size) := (by rw [HM.out] at hZ; exact ⟨hZ, hz0⟩)
  have HPL : Hid (P.length = m) := hPE
  have hJ2 := HJ.out _ _ _ h0 hb2
  rw [hPE] at hv
  subst hv
  have hN : Hid (2 ≤ n) := hn
  clear cP c0 own hZ hP hb2 h0 hPE hz0 hn
  gi_wp2
  gi_loopw [4, 8] (fun _ i wr => ∃ (k : Nat) (xs : List PZ), k ≤ m ∧ i = .int .i64 (k : Nat) ∧ xs.length = k ∧ J xs wr ∧ w2.heap.size ≤ wr.heap.size ∧ Hid (OwnI wr W.heap.size (.slice p m cap) P ∧ ∀ (j : Nat) (x : Value) (e : Op5), k ≤ j → P[j]? = some x → E[j]? = some e → ∃ s, x = pieceQ e s ∧ InA wr (Z j) (Z (j + 1)) s e.A)) (fun _ i _ => m - (RowKit.intOf i).toNat)
  case atStart => exact ⟨0, [], Nat.zero_le _, rfl, rfl, hJ2, Nat.le_refl _, H2⟩
  case round =>
    clear hJ2 H2
    obtain ⟨k, xs, hk, rfl, hxs, hJk, hsz, H⟩ := hrel
    by_cases hlt : k < m
    · have hltI : (k : Int) < (m : Int) := by omega
      obtain ⟨gP, cP, xv, hv', _, hxv, hcx⟩ := own_cell H.out.1 k (by rw [HPL.out]; exact hlt)
      simp only [Value.slice.injEq] at hv'
      obtain ⟨rfl, -, rfl⟩ := hv'
      obtain ⟨e, he⟩ : ∃ e, E[k]? = some e := ⟨_, List.getElem?_eq_getElem (by rw [HM.out]; exact hlt)⟩
      obtain ⟨s, hxs', hin⟩ := H.out.2 k xv e (Nat.le_refl _) hxv he
      have hG : GZ E w0.heap.size xs (xv, Z k, Z (k + 1)) wr := ⟨e, s, by rw [hxs]; exact he, hxs', hin, by
        have := HZ.out.1.le (Nat.zero_le k); rw [HZ.out.1.zero] at this; have := HZ.out.2; show _ ≤ Z k; omega, by
        have := HZ.out.1.le (show k + 1 ≤ m from hlt); have := HZ.out.1.top; show Z (k + 1) ≤ _; omega⟩
      have hYk := HY.out xs (xv, Z k, Z (k + 1)) wr hJk hG
      obtain ⟨u, y, hux⟩ := pieceQ_if e s
      rw [hux] at hxs'
      subst hxs'
      have HQ : Hid (xs.length = k ∧ k + 1 ≤ m ∧ w2.heap.size ≤ wr.heap.size) := ⟨hxs, hlt, hsz⟩
      obtain ⟨fn, tm, asg, bo, hy, hR⟩ := hYk
      clear hJk hxv he hin hG hux hxs hk hlt hsz
      gi_wp2
      refine ⟨(fun _ => Nat.le_trans (by decide) hN.out), hR.mono ?_⟩
      rintro e' W3 (⟨rfl, hJ3, hk3⟩ | ⟨rfl, hJx3⟩)
      · have H3 : Hid (OwnI W3 W.heap.size (.slice (some ⟨gP, 0, none⟩) m cap) P ∧ ∀ (j : Nat) (x : Value) (e : Op5), k + 1 ≤ j → P[j]? = some x → E[j]? = some e → ∃ s, x = pieceQ e s ∧ InA W3 (Z j) (Z (j + 1)) s e.A) := by
          refine ⟨owns_same H.out.1 fun b hb => ?_, fun j x e' hj h1 h2 => ?_⟩
          · obtain ⟨_, cs, hcs⟩ := owns_block H.out.1 b hb
            rw [hcs]; exact hk3.pie b cs hcs
          · obtain ⟨s', e1, e2⟩ := H.out.2 j x e' (by omega) h1 h2
            exact ⟨s', e1, ina_same e2 fun b cs hb hlo _ => hk3.att b cs hb (.inr (Nat.le_trans (HZ.out.1.le hj) hlo))⟩
        have HS3 : Hid (w2.heap.size ≤ W3.heap.size) := Nat.le_trans HQ.out.2.2 hk3.size
        clear hk3 H
        gi_wp2
        go_roundw
        case rel => exact ⟨k + 1, xs ++ [(.iface u y, Z k, Z (k + 1))], HQ.out.2.1, by go_num, by rw [List.length_append, HQ.out.1]; rfl, hJ3, HS3.out, H3⟩
        case measure => simp [RowKit.intOf]; have := HQ.out.2.1; omega
      · gi_wp2
        refine bodyPost_ret (results_none rfl _ _ _) rfl ?_
        exact ⟨⟨_, rfl⟩, .inr ⟨_, hJx3⟩⟩
    · have hltI : ¬ (k : Int) < (m : Int) := by omega
      have hkm : xs.length = m := by omega
      clear H
      gi_wp2
      go_end0
      exact ⟨⟨_, rfl⟩, .inl ⟨xs, hkm, hJk⟩⟩
end Go.Proofs.YtalfdjglbbmjcaaGreatDoor

/- One list behind another, in canonical form, by units: sums, brackets, what a cut takes. -/
namespace Go.Proofs.YtalfdjglbbmjcaaGreatDoor
open Go Go.RowKit Go.Lib
set_option linter.unusedVariables false

/-- What is put in canonical order first, and more behind it, is what it is without that. -/
theorem nrm_left : ∀ (X : List U6) (l : List C5) (e : Nat) (I : List U6) (d : Nat) (Y : List U6), nrm I d (nrm (l.map .ins) e X ++ Y) = nrm I d (l.map .ins ++ (List.replicate e .del ++ (X ++ Y)))
  | [], l, e, I, d, Y => by
    show nrm I d ((l.map .ins ++ List.replicate e .del) ++ Y) = _
    rw [List.append_assoc, List.nil_append]
  | .keep A :: X, l, e, I, d, Y => by
    show nrm I d ((l.map .ins ++ (List.replicate e .del ++ .keep A :: nrm [] 0 X)) ++ Y) = _
    rw [List.append_assoc, List.append_assoc, nrm_ins, nrm_ins, nrm_del, nrm_del]
    show _ ++ (_ ++ .keep A :: nrm [] 0 (nrm [] 0 X ++ Y)) = _ ++ (_ ++ .keep A :: nrm [] 0 (X ++ Y))
    have := nrm_left X [] 0 [] 0 Y
    simp only [List.map_nil, List.replicate_zero, List.nil_append] at this
    rw [this]
  | .del :: X, l, e, I, d, Y => by
    show nrm I d (nrm (l.map .ins) (e + 1) X ++ Y) = _
    rw [nrm_left X l (e + 1) I d Y, List.replicate_succ', List.append_assoc]
    rfl
  | .ins c :: X, l, e, I, d, Y => by
    show nrm I d (nrm (l.map .ins ++ [.ins c]) e X ++ Y) = _
    have := nrm_left X (l ++ [c]) e I d Y
    rw [List.map_append] at this
    simp only [List.map_cons, List.map_nil] at this
    rw [this, List.append_assoc, nrm_ins, nrm_ins]
    show nrm (I ++ l.map .ins) d ([c].map .ins ++ (List.replicate e .del ++ (X ++ Y))) = nrm (I ++ l.map .ins) d (List.replicate e .del ++ ([c].map .ins ++ (X ++ Y)))
    rw [nrm_ins, nrm_del, nrm_del, nrm_ins]
theorem nrm_fst (X Y I : List U6) (d : Nat) : nrm I d (nrm [] 0 X ++ Y) = nrm I d (X ++ Y) := by
  have := nrm_left X [] 0 I d Y
  simpa using this
theorem nrm_snd (X Y I : List U6) (d : Nat) : nrm I d (X ++ nrm [] 0 Y) = nrm I d (X ++ Y) := by
  obtain ⟨P, J, e, h⟩ := nrm_state X I d
  rw [h, h]
  have := nrm_fst Y [] J e
  rw [List.append_nil, List.append_nil] at this
  rw [this]
/-- What doesn't end in what is kept as it is, doesn't in canonical order either. -/
theorem nrm_end (X : List U6) (u : U6) (hu : plainU u = false) (I : List U6) (d : Nat) : ∃ V v, nrm I d (X ++ [u]) = V ++ [v] ∧ plainU v = false := by
  obtain ⟨P, J, e, h⟩ := nrm_state X I d
  rw [h]
  cases u with
  | ins c =>
    cases e with
    | zero => exact ⟨P ++ J, .ins c, by show P ++ ((J ++ [.ins c]) ++ []) = _; simp, rfl⟩
    | succ e => exact ⟨P ++ ((J ++ [.ins c]) ++ List.replicate e .del), .del, by show P ++ ((J ++ [.ins c]) ++ List.replicate (e + 1) .del) = _; rw [List.replicate_succ']; simp, rfl⟩
  | keep A => exact ⟨P ++ (J ++ List.replicate e .del), .keep A, by show P ++ (J ++ (List.replicate e .del ++ [.keep A])) = _; simp, hu⟩
  | del => exact ⟨P ++ (J ++ List.replicate e .del), .del, by show P ++ (J ++ List.replicate (e + 1) .del) = _; rw [List.replicate_succ']; simp, rfl⟩
theorem last_units {E : List Op5} (hw : ∀ o ∈ E, Wel o) (hl : lastP E = true) : E = [] ∨ ∃ us u, units E = us ++ [u] ∧ plainU u = false := by
  rcases List.eq_nil_or_concat E with rfl | ⟨F, x, rfl⟩
  · exact Or.inl rfl
  · rw [List.concat_eq_append] at *
    rw [lastP_snoc] at hl
    obtain ⟨us, u, e1, e2⟩ := units_last (hw x (List.mem_append_right _ (List.mem_singleton.2 rfl))) (by simpa using hl)
    exact Or.inr ⟨units F ++ us, u, by rw [units_append, units_one, e1]; simp, e2⟩
/-- A list whose last one isn't a plain retain: its canonical form loses nothing. -/
theorem canon_full {E : List Op5} (hw : ∀ o ∈ E, Wel o) (hl : lastP E = true) : units (canonL E) = nrm [] 0 (units E) := by
  obtain ⟨_, _, _, h⟩ := canon_spec hw
  rw [h]
  rcases last_units hw hl with rfl | ⟨us, u, e1, e2⟩
  · rfl
  · obtain ⟨V, v, e3, e4⟩ := nrm_end us u e2 [] 0
    rw [e1, e3, strip_end e4]
theorem lastP_append {E F : List Op5} (hE : lastP E = true) (hF : lastP F = true) : lastP (E ++ F) = true := by
  rcases List.eq_nil_or_concat F with rfl | ⟨G, x, rfl⟩
  · rw [List.append_nil]; exact hE
  · rw [List.concat_eq_append] at *
    rw [← List.append_assoc, lastP_snoc]
    rw [lastP_snoc] at hF
    exact hF
/-- A canonical list. -/
structure CanO (E : List Op5) : Prop where
  wel : ∀ o ∈ E, Wel o
  chain : chainB E = true
  last : lastP E = true
theorem CanO.self {E : List Op5} (h : CanO E) : canonL E = E := canon_self h.wel h.chain h.last
theorem CanO.of {E : List Op5} (h : ∀ o ∈ E, Wel o) : CanO (canonL E) := by
  obtain ⟨h1, h2, h3, _⟩ := canon_spec h
  exact ⟨h1, h2, h3⟩
theorem CanO.inj {E F : List Op5} (hE : CanO E) (hF : CanO F) (h : units E = units F) : E = F := units_inj hE.wel hF.wel hE.chain hF.chain h
theorem wel_app {E F : List Op5} (hE : ∀ o ∈ E, Wel o) (hF : ∀ o ∈ F, Wel o) : ∀ o ∈ E ++ F, Wel o := fun o ho => (List.mem_append.1 ho).elim (hE o) (hF o)
/-- One delta behind another. -/
def cat8 (E F : List Op5) : List Op5 := canonL (E ++ F)
theorem cat_can {E F : List Op5} (hE : CanO E) (hF : CanO F) : CanO (cat8 E F) := .of (wel_app hE.wel hF.wel)
theorem cat_units {E F : List Op5} (hE : CanO E) (hF : CanO F) : units (cat8 E F) = nrm [] 0 (units E ++ units F) := by
  rw [← units_append]
  exact canon_full (wel_app hE.wel hF.wel) (lastP_append hE.last hF.last)
theorem cat_assoc {E F G : List Op5} (hE : CanO E) (hF : CanO F) (hG : CanO G) : cat8 (cat8 E F) G = cat8 E (cat8 F G) := by
  refine (cat_can (cat_can hE hF) hG).inj (cat_can hE (cat_can hF hG)) ?_
  rw [cat_units (cat_can hE hF) hG, cat_units hE (cat_can hF hG), cat_units hE hF, cat_units hF hG, nrm_fst, nrm_snd, List.append_assoc]
theorem cat_nil {E : List Op5} (hE : CanO E) : cat8 E [] = E := by unfold cat8; rw [List.append_nil]; exact hE.self
theorem nil_cat {E : List Op5} (hE : CanO E) : cat8 [] E = E := by unfold cat8; rw [List.nil_append]; exact hE.self
/-- How many cells come, how many go. -/
def insN8 (U : List U6) : Nat := U.countP fun u => match u with | .ins _ => true | _ => false
def delN8 (U : List U6) : Nat := U.countP fun u => match u with | .del => true | _ => false
def insO8 (o : Op5) : Int := if o.k = 1 ∨ o.k = 2 then len5 o else 0
def dlO8 (o : Op5) : Int := if o.k = 4 then len5 o else 0
def kpO8 (o : Op5) : Int := if o.k = 3 then len5 o else 0
def sumI8 (E : List Op5) : Int := (E.map insO8).sum
def sumD8 (E : List Op5) : Int := (E.map dlO8).sum
def sumK8 (E : List Op5) : Int := (E.map kpO8).sum
theorem ins_units8 {o : Op5} (h : Wel o) : insO8 o = (insN8 (unitsO o) : Int) := by
  unfold insO8 insN8
  rcases h.kinds with hk | hk | hk | hk
  · rw [if_pos (Or.inl hk), countP_all, len5_units h]
    intro u hu
    rcases unit_cases h hu with ⟨_, r, rfl⟩ | ⟨_, rfl⟩ | ⟨h2, _⟩ | ⟨h2, _⟩ <;> first | rfl | omega
  · rw [if_pos (Or.inr hk), countP_all, len5_units h]
    intro u hu
    rcases unit_cases h hu with ⟨_, r, rfl⟩ | ⟨_, rfl⟩ | ⟨h2, _⟩ | ⟨h2, _⟩ <;> first | rfl | omega
  · rw [if_neg (by omega), countP_none]; rfl
    intro u hu
    rcases unit_cases h hu with ⟨h2, _⟩ | ⟨h2, _⟩ | ⟨_, rfl⟩ | ⟨h2, rfl⟩ <;> first | rfl | omega
  · rw [if_neg (by omega), countP_none]; rfl
    intro u hu
    rcases unit_cases h hu with ⟨h2, _⟩ | ⟨h2, _⟩ | ⟨h2, rfl⟩ | ⟨h2, rfl⟩ <;> first | rfl | omega
theorem dl_units8 {o : Op5} (h : Wel o) : dlO8 o = (delN8 (unitsO o) : Int) := by
  unfold dlO8 delN8
  rcases h.kinds with hk | hk | hk | hk
  · rw [if_neg (by omega), countP_none]; rfl
    intro u hu
    rcases unit_cases h hu with ⟨_, r, rfl⟩ | ⟨_, rfl⟩ | ⟨h2, _⟩ | ⟨h2, _⟩ <;> first | rfl | omega
  · rw [if_neg (by omega), countP_none]; rfl
    intro u hu
    rcases unit_cases h hu with ⟨_, r, rfl⟩ | ⟨_, rfl⟩ | ⟨h2, _⟩ | ⟨h2, _⟩ <;> first | rfl | omega
  · rw [if_neg (by omega), countP_none]; rfl
    intro u hu
    rcases unit_cases h hu with ⟨h2, _⟩ | ⟨h2, _⟩ | ⟨_, rfl⟩ | ⟨h2, rfl⟩ <;> first | rfl | omega
  · rw [if_pos hk, countP_all, len5_units h]
    intro u hu
    rcases unit_cases h hu with ⟨h2, _⟩ | ⟨h2, _⟩ | ⟨h2, rfl⟩ | ⟨h2, rfl⟩ <;> first | rfl | omega
theorem insN8_append (U V : List U6) : insN8 (U ++ V) = insN8 U + insN8 V := by unfold insN8; rw [List.countP_append]
theorem delN8_append (U V : List U6) : delN8 (U ++ V) = delN8 U + delN8 V := by unfold delN8; rw [List.countP_append]
theorem sumI8_units : ∀ {E : List Op5}, (∀ o ∈ E, Wel o) → sumI8 E = (insN8 (units E) : Int)
  | [], _ => rfl
  | o :: r, h => by
    have ih := sumI8_units fun x hx => h x (List.mem_cons_of_mem _ hx)
    show insO8 o + sumI8 r = (insN8 (unitsO o ++ units r) : Int)
    rw [insN8_append, ins_units8 (h o (List.mem_cons_self ..)), ih]; omega
theorem sumD8_units : ∀ {E : List Op5}, (∀ o ∈ E, Wel o) → sumD8 E = (delN8 (units E) : Int)
  | [], _ => rfl
  | o :: r, h => by
    have ih := sumD8_units fun x hx => h x (List.mem_cons_of_mem _ hx)
    show dlO8 o + sumD8 r = (delN8 (unitsO o ++ units r) : Int)
    rw [delN8_append, dl_units8 (h o (List.mem_cons_self ..)), ih]; omega
theorem three_sums {o : Op5} (h : Wel o) : baseO o = kpO8 o + dlO8 o ∧ resO o = kpO8 o + insO8 o ∧ 0 ≤ kpO8 o ∧ 0 ≤ dlO8 o ∧ 0 ≤ insO8 o := by
  have h1 := base_nn h
  have h2 := res_nn h
  have hl := len5_units h
  unfold baseO resO kpO8 dlO8 insO8 at *
  rcases h.kinds with hk | hk | hk | hk
  · simp only [hk] at *; simp at *; omega
  · simp only [hk] at *; simp at *; omega
  · simp only [hk] at *; simp at *; omega
  · simp only [hk] at *; simp at *; omega
theorem sums_three : ∀ {E : List Op5}, (∀ o ∈ E, Wel o) → sumB E = sumK8 E + sumD8 E ∧ sumR E = sumK8 E + sumI8 E ∧ 0 ≤ sumK8 E ∧ 0 ≤ sumD8 E ∧ 0 ≤ sumI8 E
  | [], _ => by decide
  | o :: r, h => by
    have ih := sums_three fun x hx => h x (List.mem_cons_of_mem _ hx)
    have h1 := three_sums (h o (List.mem_cons_self ..))
    have e : sumB (o :: r) = baseO o + sumB r ∧ sumR (o :: r) = resO o + sumR r ∧ sumK8 (o :: r) = kpO8 o + sumK8 r ∧ sumD8 (o :: r) = dlO8 o + sumD8 r ∧ sumI8 (o :: r) = insO8 o + sumI8 r := ⟨rfl, rfl, rfl, rfl, rfl⟩
    omega
theorem cat_sums {E F : List Op5} (hE : CanO E) (hF : CanO F) : sumB (cat8 E F) = sumB E + sumB F ∧ sumR (cat8 E F) = sumR E + sumR F ∧ sumI8 (cat8 E F) = sumI8 E + sumI8 F ∧ sumD8 (cat8 E F) = sumD8 E + sumD8 F := by
  have hc := cat_can hE hF
  have hp : (units (cat8 E F)).Perm (units E ++ units F) := by
    rw [cat_units hE hF]
    have := nrm_perm (units E ++ units F) [] 0
    simpa using this
  have cnt : ∀ p : U6 → Bool, (units (cat8 E F)).countP p = (units E).countP p + (units F).countP p := fun p => by rw [hp.countP_eq, List.countP_append]
  refine ⟨?_, ?_, ?_, ?_⟩
  · rw [sumB_units hc.wel, sumB_units hE.wel, sumB_units hF.wel]; unfold baseU; rw [cnt]; omega
  · rw [sumR_units hc.wel, sumR_units hE.wel, sumR_units hF.wel]; unfold resU; rw [cnt]; omega
  · rw [sumI8_units hc.wel, sumI8_units hE.wel, sumI8_units hF.wel]; unfold insN8; rw [cnt]; omega
  · rw [sumD8_units hc.wel, sumD8_units hE.wel, sumD8_units hF.wel]; unfold delN8; rw [cnt]; omega
/-- Behind so many cells. -/
def shift8 (E : List Op5) (n : Int) : List Op5 := if n = 0 ∨ E = [] then E else canonL (pl7 n :: E)
theorem shift_wel {E : List Op5} (hE : CanO E) {n : Int} (h : 1 ≤ n) : ∀ o ∈ pl7 n :: E, Wel o := fun o ho => by
  rcases List.mem_cons.1 ho with rfl | ho
  · exact Or.inr (Or.inl ⟨rfl, rfl, rfl, h, by kernel_rfl⟩)
  · exact hE.wel o ho
theorem lastP_behind {x : Op5} {E : List Op5} (h : lastP E = true) (h0 : E ≠ []) : lastP (x :: E) = true := by
  cases E with
  | nil => exact absurd rfl h0
  | cons y r => rw [lastP_cons]; exact h
theorem shift_units {E : List Op5} (hE : CanO E) {n : Int} (h : 0 ≤ n) (h0 : E ≠ []) : CanO (shift8 E n) ∧ units (shift8 E n) = nrm [] 0 (List.replicate n.toNat (U6.keep []) ++ units E) := by
  by_cases hn : n = 0
  · subst hn
    have e : shift8 E 0 = E := if_pos (Or.inl rfl)
    rw [e]
    exact ⟨hE, by show _ = nrm [] 0 (units E); rw [nrm_chain [] hE.wel hE.chain]; rfl⟩
  · have e : shift8 E n = canonL (pl7 n :: E) := if_neg (by simp [hn, h0])
    have hw := shift_wel hE (n := n) (by omega)
    rw [e]
    exact ⟨.of hw, canon_full hw (lastP_behind hE.last h0)⟩
theorem shift_ne {E : List Op5} (hE : CanO E) {n : Int} (h : 0 ≤ n) (h0 : E ≠ []) : shift8 E n ≠ [] := fun e => by
  obtain ⟨_, hu⟩ := shift_units hE h h0
  rw [e] at hu
  have hp := nrm_perm (List.replicate n.toNat (U6.keep []) ++ units E) [] 0
  rw [← hu] at hp
  have hl := hp.length_eq
  cases E with
  | nil => exact h0 rfl
  | cons x r =>
    have := unitsO_ne (hE.wel x (List.mem_cons_self ..))
    have h2 : units (x :: r) = unitsO x ++ units r := rfl
    have h3 : 1 ≤ (unitsO x).length := by
      cases hx : unitsO x with
      | nil => exact absurd hx this
      | cons _ _ => simp
    simp [units] at hl
    omega
theorem shift_two {E : List Op5} (hE : CanO E) {m n : Int} (hm : 0 ≤ m) (hn : 0 ≤ n) : shift8 (shift8 E m) n = shift8 E (m + n) := by
  by_cases h0 : E = []
  · subst h0
    have e : ∀ k : Int, shift8 [] k = [] := fun k => if_pos (Or.inr rfl)
    rw [e, e, e]
  · obtain ⟨c1, u1⟩ := shift_units hE hm h0
    obtain ⟨c2, u2⟩ := shift_units c1 hn (shift_ne hE hm h0)
    obtain ⟨c3, u3⟩ := shift_units hE (show 0 ≤ m + n by omega) h0
    refine c2.inj c3 ?_
    rw [u2, u1, u3, nrm_snd, ← List.append_assoc, List.replicate_append_replicate, show (m + n).toNat = n.toNat + m.toNat by omega]
theorem shift_sums {E : List Op5} (hE : CanO E) {n : Int} (h : 0 ≤ n) (h0 : E ≠ []) : sumB (shift8 E n) = n + sumB E ∧ sumR (shift8 E n) = n + sumR E := by
  obtain ⟨hc, hu⟩ := shift_units hE h h0
  have hp : (units (shift8 E n)).Perm (List.replicate n.toNat (U6.keep []) ++ units E) := by
    rw [hu]
    have := nrm_perm (List.replicate n.toNat (U6.keep []) ++ units E) [] 0
    simpa using this
  have cnt : ∀ p : U6 → Bool, p (U6.keep []) = true → (units (shift8 E n)).countP p = n.toNat + (units E).countP p := fun p hp' => by
    rw [hp.countP_eq, List.countP_append, List.countP_replicate, if_pos hp']
  refine ⟨?_, ?_⟩
  · rw [sumB_units hc.wel, sumB_units hE.wel]; unfold baseU; rw [cnt _ rfl]; omega
  · rw [sumR_units hc.wel, sumR_units hE.wel]; unfold resU; rw [cnt _ rfl]; omega
end Go.Proofs.YtalfdjglbbmjcaaGreatDoor

/- measure: count: how many cells a delta keeps, makes and takes away; Base, Result, Inserted, Deleted, Document. -/
namespace Go.Proofs.YtalfdjglbbmjcaaGreatDoor
open Go Go.RowKit Go.Lib Go.Shelf
set_option linter.unusedVariables false
attribute [local go_sem] Oper.semAt_some

abbrev cnt8 (k i d : Int) : Array Value := #[.int .i64 k, .int .i64 i, .int .i64 d]
theorem tr_below8 {T : TypeId → Prop} {n B : Nat} {w A A' : World} (h : Below n w A) (hn : n ≤ w.heap.size) (hB : n ≤ B) (k : Tr7 T B A A') : Below n w A' :=
  ⟨k.os.trans h.os, k.tape.trans h.tape, k.output.trans h.output, Nat.le_trans h.size k.size, fun j hj => by
    have hl : j < A.heap.size := by have := h.size; omega
    rw [k.kept j A.heap[j] (Array.getElem?_eq_getElem hl) (.inl (by omega)), ← h.block j hj, Array.getElem?_eq_getElem hl]⟩
theorem count_leave (n0 W : World) (D r : Nat) (tmps : Array Value) (k i d : Int) (hp : tmps[2]? = some (.pointer (some ⟨r, 0, none⟩))) (hr : W.heap[r]? = some (.cells (cnt8 k i d) 146 (0, 0)))
    (hK : W.heap[D]? = some (.deferred (some []))) (h1 : n0.heap.size ≤ D) (hb : Below n0.heap.size n0 W) :
    bodyPostM Fence.wide 5 Tryz.prog Tryz.f94 (fun e w' => e = .returned (.agg (cnt8 k i d)) ∧ Below n0.heap.size n0 w') Exit.ret
      { tmps := tmps, defers := [{ target := .collected D, args := #[] }] } W := by
  have hne : r ≠ D := fun e => by subst e; rw [hr] at hK; cases hK
  have hr' : (W.putObj D (.deferred none)).heap[r]? = some (.cells (cnt8 k i d) 146 (0, 0)) := (World.putObj_heap_other hne).trans hr
  have c0 : (W.putObj D (.deferred none)).cell? ⟨r, 0, none⟩ = some (.int .i64 k) := by rw [cell_of_heap hr']; rfl
  have c1 : (W.putObj D (.deferred none)).cell? ⟨r, 1, none⟩ = some (.int .i64 i) := by rw [cell_of_heap hr']; rfl
  have c2 : (W.putObj D (.deferred none)).cell? ⟨r, 2, none⟩ = some (.int .i64 d) := by rw [cell_of_heap hr']; rfl
  refine ⟨by simp, .inl ⟨_, _, rfl, run_takeDeferred hK, ?_⟩⟩
  refine ⟨.agg (cnt8 k i d), ?_, rfl, ?_⟩
  · simp [results, Tryz.results94, go_sem, hp, c0, c1, c2]
  · exact hb.trans (belowK_b (w := n0) (Nat.le_refl _) _ D _ _ h1 hK rfl rfl)
theorem KZ.set8 {pre : List PZ} {x : PZ} {W W' : World} {N j : Nat} {v : Array Value} (b : Below W.heap.size W W') (h : W.heap[N]? = some (.cells v 146 (0, 0))) (u : Value) : KZ pre x W (W'.setCell ⟨N, j, none⟩ u) := by
  have key : ∀ (k : Nat) (o : Obj), W.heap[k]? = some o → k ≠ N → (W'.setCell ⟨N, j, none⟩ u).heap[k]? = some o := fun k o hk n2 => by
    rw [Below.heap_setCell _ _ _ _ (by exact n2), b.block k (Array.getElem?_eq_some_iff.1 hk).1, hk]
  exact ⟨by simp only [World.setCell, Array.size_modify]; exact b.size, fun k cs hk => key k _ hk (fun e => by subst e; rw [h] at hk; cases hk), fun k cs hk _ => key k _ hk (fun e => by subst e; rw [h] at hk; cases hk)⟩
theorem set3_heap8 {W : World} {r : Nat} (h : W.heap[r]? = some (.cells (cnt8 0 0 0) 146 (0, 0))) (a b c : Value) :
    (((W.setCell ⟨r, 0, none⟩ a).setCell ⟨r, 1, none⟩ b).setCell ⟨r, 2, none⟩ c).heap[r]? = some (.cells #[a, b, c] 146 (0, 0)) ∧ (∀ (k : Nat) (o : Obj), W.heap[k]? = some o → k ≠ r → (((W.setCell ⟨r, 0, none⟩ a).setCell ⟨r, 1, none⟩ b).setCell ⟨r, 2, none⟩ c).heap[k]? = some o) ∧ Below r W (((W.setCell ⟨r, 0, none⟩ a).setCell ⟨r, 1, none⟩ b).setCell ⟨r, 2, none⟩ c) := by
  have h1 := heap_set_at W r 0 a _ _ _ h
  have h2 := heap_set_at _ r 1 b _ _ _ h1
  have h3 := heap_set_at _ r 2 c _ _ _ h2
  refine ⟨h3, fun k o hk hn => ?_, (((Below.refl _ _).setCell (p := ⟨r, 0, none⟩) (Nat.le_refl _) _).setCell (p := ⟨r, 1, none⟩) (Nat.le_refl _) _).setCell (p := ⟨r, 2, none⟩) (Nat.le_refl _) _⟩
  rw [Below.heap_setCell _ _ _ _ (by exact hn), Below.heap_setCell _ _ _ _ (by exact hn), Below.heap_setCell _ _ _ _ (by exact hn), hk]
/-- What count has behind some pieces. -/
def CI8 (E : List Op5) (w : World) (r N : Nat) (pre : List PZ) (W : World) : Prop := W.heap[N]? = some (.cells (cnt8 (sumK8 (E.take pre.length)) (sumI8 (E.take pre.length)) (sumD8 (E.take pre.length))) 146 (0, 0)) ∧ W.heap[r]? = some (.cells (cnt8 0 0 0) 146 (0, 0)) ∧ Below w.heap.size w W
theorem sumK8_append (E F : List Op5) : sumK8 (E ++ F) = sumK8 E + sumK8 F := by unfold sumK8; rw [List.map_append, List.sum_append]
theorem sumI8_append (E F : List Op5) : sumI8 (E ++ F) = sumI8 E + sumI8 F := by unfold sumI8; rw [List.map_append, List.sum_append]
theorem sumD8_append (E F : List Op5) : sumD8 (E ++ F) = sumD8 E + sumD8 F := by unfold sumD8; rw [List.map_append, List.sum_append]
theorem others8 {w w' : World} (h : Below w.heap.size w w') : KeepsOthers w w' :=
  ⟨h.size, fun k o hk _ => (h.block k (Array.getElem?_eq_some_iff.1 hk).1).trans hk⟩
/-- Behind a round. -/
theorem ci_step {E : List Op5} {w W W' : World} {r N B j : Nat} {pre : List PZ} {x : PZ} {e : Op5} {u : Int} (hI : CI8 E w r N pre W) (he : E[pre.length]? = some e) (hN : w.heap.size ≤ N) (hrN : r ≠ N) (b : Below W.heap.size W W')
    (hu : (cnt8 (sumK8 (E.take pre.length)) (sumI8 (E.take pre.length)) (sumD8 (E.take pre.length))).setIfInBounds j (.int .i64 u) = cnt8 (sumK8 (E.take pre.length) + kpO8 e) (sumI8 (E.take pre.length) + insO8 e) (sumD8 (E.take pre.length) + dlO8 e)) :
    KeepsFrom B W (W'.setCell ⟨N, j, none⟩ (.int .i64 u)) ∧ KZ pre x W (W'.setCell ⟨N, j, none⟩ (.int .i64 u)) ∧ CI8 E w r N (pre ++ [x]) (W'.setCell ⟨N, j, none⟩ (.int .i64 u)) := by
  obtain ⟨h1, h2, h3⟩ := hI
  have h1' := heap_below b h1
  have hT : E.take (pre ++ [x]).length = E.take pre.length ++ [e] := by rw [List.length_append, List.length_singleton, List.take_add_one, he]; rfl
  refine ⟨((others8 b).trans (KeepsOthers.setCell _ _ _)).from _, KZ.set8 b h1 _, ?_, ?_, (h3.trans (b.mono h3.size)).setCell (p := ⟨N, j, none⟩) hN _⟩
  · rw [heap_set_at W' _ j _ _ _ _ h1', hT, sumK8_append, sumI8_append, sumD8_append]
    have e1 : sumK8 [e] = kpO8 e := by simp [sumK8]
    have e2 : sumI8 [e] = insO8 e := by simp [sumI8]
    have e3 : sumD8 [e] = dlO8 e := by simp [sumD8]
    rw [e1, e2, e3, hu]
  · rw [Below.heap_setCell _ _ _ _ (by exact hrN)]
    exact heap_below b h2
theorem fits_pre8 {E : List Op5} (hw : ∀ o ∈ E, Wel o) (hf : sumB E ≤ 1099511627776 ∧ sumR E ≤ 1099511627776) (k : Nat) : (0 ≤ sumK8 (E.take k) ∧ sumK8 (E.take k) ≤ 1099511627776) ∧ (0 ≤ sumI8 (E.take k) ∧ sumI8 (E.take k) ≤ 1099511627776) ∧ 0 ≤ sumD8 (E.take k) ∧ sumD8 (E.take k) ≤ 1099511627776 := by
  have h1 := sums_three (E := E.take k) fun o ho => hw o (List.mem_of_mem_take ho)
  have h2 := sums_three (E := E.drop k) fun o ho => hw o (List.mem_of_mem_drop ho)
  have h3 := sums_three hw
  have e1 := sumK8_append (E.take k) (E.drop k)
  have e2 := sumI8_append (E.take k) (E.drop k)
  have e3 := sumD8_append (E.take k) (E.drop k)
  rw [List.take_append_drop] at e1 e2 e3
  omega
theorem len_pre8 {E : List Op5} (hg : ∀ o ∈ E, opE o = 0) (hf : sumB E ≤ 1099511627776 ∧ sumR E ≤ 1099511627776) {e : Op5} (he : e ∈ E) : 1 ≤ len5 e ∧ len5 e ≤ 1099511627776 := by
  have hw : ∀ o ∈ E, Wel o := fun o ho => wel_of (hg o ho)
  obtain ⟨h1, h2⟩ := mem_sums hw he
  have hp := len5_pos (hg e he)
  refine ⟨hp, ?_⟩
  unfold baseO resO at *
  rcases (hw e he).kinds with hk | hk | hk | hk <;> simp [hk] at h1 h2 <;> omega
set_option maxHeartbeats 4000000 in
set_option maxRecDepth 100000 in
theorem count8_any {B1 B2 : Nat} (v : Value) (E : List Op5) (w : World) (h : DelV w B1 B2 v E) (hg : ∀ o ∈ E, opE o = 0) (hA : ∀ o ∈ E, o.A.length ≤ 2097152) (hl : E.length ≤ 4194304) (hf : sumB E ≤ 1099511627776 ∧ sumR E ≤ 1099511627776) :
    Calls Tryz.prog 94 #[v] w fun e w' => e = .returned (.agg (cnt8 (sumK8 E) (sumI8 E) (sumD8 E))) ∧ Below w.heap.size w w' := by
  have b1 : Below w.heap.size w ((w.alloc (.cells (cnt8 0 0 0) 146)).alloc (.cells (cnt8 0 0 0) 146)) := ((Below.refl _ _).alloc (Nat.le_refl _) _).alloc (by simp) _
  have n1 : ((w.alloc (.cells (cnt8 0 0 0) 146)).alloc (.cells (cnt8 0 0 0) 146)).heap[w.heap.size + 1]? = some (.cells (cnt8 0 0 0) 146 (0, 0)) := by
    have := heap_alloc_new (w.alloc (.cells (cnt8 0 0 0) 146)) (.cells (cnt8 0 0 0) 146)
    rwa [World.size_alloc] at this
  have n2 : ((w.alloc (.cells (cnt8 0 0 0) 146)).alloc (.cells (cnt8 0 0 0) 146)).heap[w.heap.size]? = some (.cells (cnt8 0 0 0) 146 (0, 0)) :=
    heap_below ((Below.refl _ _).alloc (Nat.le_refl _) _) (heap_alloc_new w _)
  have cE := each7_call v E _ (h.below b1)
  have hw : ∀ o ∈ E, Wel o := fun o ho => wel_of (hg o ho)
  have HE : Hid ((∀ o ∈ E, opE o = 0) ∧ (∀ o ∈ E, o.A.length ≤ 2097152) ∧ E.length ≤ 4194304 ∧ (sumB E ≤ 1099511627776 ∧ sumR E ≤ 1099511627776) ∧ ∀ o ∈ E, Wel o) := ⟨hg, hA, hl, hf, hw⟩
  have H1 : Hid (CI8 E w w.heap.size (w.heap.size + 1) [] ((w.alloc (.cells (cnt8 0 0 0) 146)).alloc (.cells (cnt8 0 0 0) 146))) := ⟨n1, n2, b1⟩
  obtain ⟨q, pv, PL, rfl, _⟩ := h
  clear hg hA hl hf hw b1 n1 n2
  refine (callsIn_wide (n := 5)).1 ?_
  refine callsIn_of_wp_marks Tryz.func94 rfl trivial ?_ rfl
  simp only [Tryz.ntmps94, List.size_toArray, List.length_cons, List.length_nil, Nat.reduceAdd, Nat.reduceSub, Array.replicate_succ, Array.replicate_zero, List.push_toArray, List.append_toArray, List.nil_append, List.cons_append]
  rw [wpIn_wide]
  go_wp2_with fail
  refine cE.mono ?_; rintro r w2 ⟨x, rfl, hx, -, b2⟩
  have H2 : Hid (CI8 E w w.heap.size (w.heap.size + 1) [] w2 ∧ BoxD w2 x B1 B2 E) := ⟨⟨heap_below b2 H1.out.1, heap_below b2 H1.out.2.1, H1.out.2.2.trans (b2.mono H1.out.2.2.size)⟩, hx⟩
  have hsz : w.heap.size + 1 < w2.heap.size := (Array.getElem?_eq_some_iff.1 H2.out.1.1).1
  clear cE hx b2 H1
  go_wp2_with fail
  refine (wpIn_wide (n := 5)).1 ?_
  refine wpIn_rangeFunc_G (encs := encZ) rfl (by decide) (gf := 112) (lb := #[.pointer (some ⟨x, 0, none⟩)]) rfl trivial (enters_of Tryz.func112 (by kernel_rfl) rfl)
    (each7_seq E w2 x B1 B2 H2.out.2 HE.out.1 HE.out.2.1 HE.out.2.2.1 4 (by decide)) (Below.refl _ _) (fun _ => rfl) (fun pre x A A' h k => h.bk k) (fun pre x A A' B B' k1 h k2 => KZ.bk k1 h k2)
    (CI8 E w w.heap.size (w.heap.size + 1)) (fun _ _ _ => False)
    (fun s A A' h k => ⟨k.kept _ _ h.1 (.inl hsz), k.kept _ _ h.2.1 (.inl (by omega)), tr_below8 h.2.2 (Nat.le_refl _) (by omega) k⟩) (fun _ _ _ _ h _ => h) H2.out.1 ?a1 ?assign ?body ?done ?stop
  case assign =>
    intro l x W K hK
    gi_wp2
    exact hK
  case body =>
    rintro l pre x W hI ⟨e, s', he, hx, _⟩
    obtain ⟨x1, xlo, xhi⟩ := x
    simp only at hx
    subst hx
    have HI : Hid (CI8 E w w.heap.size (w.heap.size + 1) pre W ∧ E[pre.length]? = some e) := ⟨hI, he⟩
    have hge := HE.out.1 e (List.mem_of_getElem? he)
    obtain ⟨K, hK⟩ : ∃ x, sumK8 (E.take pre.length) = x := ⟨_, rfl⟩
    obtain ⟨I, hI'⟩ : ∃ x, sumI8 (E.take pre.length) = x := ⟨_, rfl⟩
    obtain ⟨D, hD⟩ : ∃ x, sumD8 (E.take pre.length) = x := ⟨_, rfl⟩
    have hc := HI.out.1.1
    rw [hK, hI', hD] at hc
    have c0 : W.cell? ⟨w.heap.size + 1, 0, none⟩ = some (.int .i64 K) := by rw [cell_of_heap hc]; rfl
    have c1 : W.cell? ⟨w.heap.size + 1, 1, none⟩ = some (.int .i64 I) := by rw [cell_of_heap hc]; rfl
    have c2 : W.cell? ⟨w.heap.size + 1, 2, none⟩ = some (.int .i64 D) := by rw [cell_of_heap hc]; rfl
    have HC : Hid (∀ W', Below W.heap.size W W' → (W'.cell? ⟨w.heap.size + 1, 0, none⟩ = some (.int .i64 K) ∧ W'.cell? ⟨w.heap.size + 1, 1, none⟩ = some (.int .i64 I) ∧ W'.cell? ⟨w.heap.size + 1, 2, none⟩ = some (.int .i64 D)) ∧ W'.frozen? ⟨w.heap.size + 1, 0, none⟩ = false ∧ W'.frozen? ⟨w.heap.size + 1, 1, none⟩ = false ∧ W'.frozen? ⟨w.heap.size + 1, 2, none⟩ = false) := fun W' hb => ⟨⟨(hb.cell (lt_of_cell c0)).trans c0, (hb.cell (lt_of_cell c1)).trans c1, (hb.cell (lt_of_cell c2)).trans c2⟩, frozen_of_heap (heap_below hb hc) 0, frozen_of_heap (heap_below hb hc) 1, frozen_of_heap (heap_below hb hc) 2⟩
    have bd : Below W.heap.size W W.drew := (Below.refl _ _).drew
    have md := HC.out _ bd
    obtain ⟨L, hL⟩ : ∃ x, len5 e = x := ⟨_, rfl⟩
    have hr : ((0 ≤ K ∧ K ≤ 1099511627776) ∧ (0 ≤ I ∧ I ≤ 1099511627776) ∧ (0 ≤ D ∧ D ≤ 1099511627776)) ∧ 1 ≤ L ∧ L ≤ 1099511627776 := by
      have h1 := fits_pre8 HE.out.2.2.2.2 HE.out.2.2.2.1 pre.length
      have h2 := len_pre8 HE.out.1 HE.out.2.2.2.1 (List.mem_of_getElem? he)
      rw [hK, hI', hD] at h1
      rw [hL] at h2
      exact ⟨h1, h2⟩
    replace hK : Hid (sumK8 (E.take pre.length) = K ∧ sumI8 (E.take pre.length) = I ∧ sumD8 (E.take pre.length) = D ∧ len5 e = L) := ⟨hK, hI', hD, hL⟩
    clear hI he hc c0 c1 c2 hI' hD
    rcases kinds_of hge with hk | hk | hk | hk
    · have hu : Hid (kpO8 e = 0 ∧ insO8 e = len5 e ∧ dlO8 e = 0) := by show _ ∧ _ ∧ _; unfold kpO8 dlO8 insO8; simp [hk]
      have hl := (len5_1 hk).symm.trans hL
      rw [pieceQ_1 hk]
      have a0 := as_i_r
      have a1 := as_i_d
      rw [hl]
      have hz : IntKind.i64.wrap (I + L) = I + L := by rw [IntKind.wrap_i64]; omega
      have hm : ∀ W : World, (method 354 180 (.agg #[s', .string e.t, .int .i64 L]) "Len").run Tryz.prog W = .ok (200, .agg #[s', .string e.t, .int .i64 L]) W := fun _ => by kernel_rfl
      have cLen : Hid (∀ W', Below W.heap.size W W' → Calls Tryz.prog 200 #[.agg #[s', .string e.t, .int .i64 L]] W' fun r w' => r = .returned (.int .i64 L) ∧ Below W.heap.size W w') := fun W' hW => from_below hW (ilen_any s' e.t L W')
      clear hk hl
      gi_wp2
      gi_region_with (refine ⟨trivial, (CallsIn.inRound l (callsIn_wide.2 (cLen.out _ bd))).mono ?_⟩; rintro r wA ⟨rfl, bA⟩; have mA := HC.out wA bA)
      all_goals (gi_wp2)
      all_goals exact ci_step HI.out.1 HI.out.2 (by omega) (by omega) bA (by rw [hK.out.1, hK.out.2.1, hK.out.2.2.1, hu.out.1, hu.out.2.1, hu.out.2.2, hK.out.2.2.2]; simp)
    · have hu : Hid (kpO8 e = 0 ∧ insO8 e = len5 e ∧ dlO8 e = 0) := by show _ ∧ _ ∧ _; unfold kpO8 dlO8 insO8; simp [hk]
      have hl := (len5_2 hk).symm.trans hL
      rw [pieceQ_2 hk]
      have a0 := as_e_r
      have a1 := as_e_d
      obtain ⟨V, hV⟩ : ∃ V, valP e.v = V := ⟨_, rfl⟩
      rw [hV]
      have hz : IntKind.i64.wrap (I + L) = I + L := by rw [IntKind.wrap_i64]; omega
      have hm : ∀ W : World, (method 354 184 (.agg #[s', .string e.t, V]) "Len").run Tryz.prog W = .ok (202, .agg #[s', .string e.t, V]) W := fun _ => by kernel_rfl
      have cLen : Hid (∀ W', Below W.heap.size W W' → Calls Tryz.prog 202 #[.agg #[s', .string e.t, V]] W' fun r w' => r = .returned (.int .i64 L) ∧ Below W.heap.size W w') := fun W' hW => from_below hW (by have := elen_any V s' e.t W'; rw [hl] at this; exact this)
      clear hk hl
      gi_wp2
      gi_region_with (refine ⟨trivial, (CallsIn.inRound l (callsIn_wide.2 (cLen.out _ bd))).mono ?_⟩; rintro r wA ⟨rfl, bA⟩; have mA := HC.out wA bA)
      all_goals (gi_wp2)
      all_goals exact ci_step HI.out.1 HI.out.2 (by omega) (by omega) bA (by rw [hK.out.1, hK.out.2.1, hK.out.2.2.1, hu.out.1, hu.out.2.1, hu.out.2.2, hK.out.2.2.2]; simp)
    · have hu : Hid (kpO8 e = len5 e ∧ insO8 e = 0 ∧ dlO8 e = 0) := by show _ ∧ _ ∧ _; unfold kpO8 dlO8 insO8; simp [hk]
      have hl := (len5_3 (.inl hk)).symm.trans hL
      rw [pieceQ_3 hk]
      have a0 := as_r_r
      have a1 := as_r_d
      rw [hl]
      have hz : IntKind.i64.wrap (K + L) = K + L := by rw [IntKind.wrap_i64]; omega
      have hm : ∀ W : World, (method 354 157 (.agg #[s', .int .i64 L]) "Len").run Tryz.prog W = .ok (198, .agg #[s', .int .i64 L]) W := fun _ => by kernel_rfl
      have cLen : Hid (∀ W', Below W.heap.size W W' → Calls Tryz.prog 198 #[.agg #[s', .int .i64 L]] W' fun r w' => r = .returned (.int .i64 L) ∧ Below W.heap.size W w') := fun W' hW => from_below hW (rlen_any s' L W')
      clear hk hl
      gi_wp2
      gi_region_with (refine ⟨trivial, (CallsIn.inRound l (callsIn_wide.2 (cLen.out _ bd))).mono ?_⟩; rintro r wA ⟨rfl, bA⟩; have mA := HC.out wA bA)
      all_goals (gi_wp2)
      all_goals exact ci_step HI.out.1 HI.out.2 (by omega) (by omega) bA (by rw [hK.out.1, hK.out.2.1, hK.out.2.2.1, hu.out.1, hu.out.2.1, hu.out.2.2, hK.out.2.2.2]; simp)
    · have hu : Hid (kpO8 e = 0 ∧ insO8 e = 0 ∧ dlO8 e = len5 e) := by show _ ∧ _ ∧ _; unfold kpO8 dlO8 insO8; simp [hk]
      have hl := (len5_3 (.inr hk)).symm.trans hL
      rw [pieceQ_4 hk]
      have a0 := as_d_r
      have a1 := as_d_d
      rw [hl]
      have hz : IntKind.i64.wrap (D + L) = D + L := by rw [IntKind.wrap_i64]; omega
      have hm : ∀ W : World, (method 354 102 (.agg #[.int .i64 L]) "Len").run Tryz.prog W = .ok (196, .agg #[.int .i64 L]) W := fun _ => by kernel_rfl
      have cLen : Hid (∀ W', Below W.heap.size W W' → Calls Tryz.prog 196 #[.agg #[.int .i64 L]] W' fun r w' => r = .returned (.int .i64 L) ∧ Below W.heap.size W w') := fun W' hW => from_below hW (dlen_any L W')
      clear hk hl
      gi_wp2
      gi_region_with (refine ⟨trivial, (CallsIn.inRound l (callsIn_wide.2 (cLen.out _ bd))).mono ?_⟩; rintro r wA ⟨rfl, bA⟩; have mA := HC.out wA bA)
      all_goals (gi_wp2)
      all_goals exact ci_step HI.out.1 HI.out.2 (by omega) (by omega) bA (by rw [hK.out.1, hK.out.2.1, hK.out.2.2.1, hu.out.1, hu.out.2.1, hu.out.2.2, hK.out.2.2.2]; simp)
  case stop => intro D c pre W _ h; exact h.elim
  case done =>
    rintro D xs W hD hS ⟨hN, hR, hB⟩ hK
    rw [hS, List.take_length] at hN
    have c0 : W.cell? ⟨w.heap.size + 1, 0, none⟩ = some (.int .i64 (sumK8 E)) := by rw [cell_of_heap hN]; rfl
    have c1 : W.cell? ⟨w.heap.size + 1, 1, none⟩ = some (.int .i64 (sumI8 E)) := by rw [cell_of_heap hN]; rfl
    have c2 : W.cell? ⟨w.heap.size + 1, 2, none⟩ = some (.int .i64 (sumD8 E)) := by rw [cell_of_heap hN]; rfl
    have r0 : W.cell? ⟨w.heap.size, 0, none⟩ = some (.int .i64 0) := by rw [cell_of_heap hR]; rfl
    have r1 : W.cell? ⟨w.heap.size, 1, none⟩ = some (.int .i64 0) := by rw [cell_of_heap hR]; rfl
    have r2 : W.cell? ⟨w.heap.size, 2, none⟩ = some (.int .i64 0) := by rw [cell_of_heap hR]; rfl
    have f0 := frozen_of_heap hR 0
    have f1 := frozen_of_heap hR 1
    have f2 := frozen_of_heap hR 2
    have HF : Hid (w.heap.size ≤ D ∧ W.heap[D]? = some (.deferred (some [])) ∧ W.heap[w.heap.size]? = some (.cells (cnt8 0 0 0) 146 (0, 0)) ∧ Below w.heap.size w W) := ⟨by omega, hK, hR, hB⟩
    clear hN hS hR hB hK hD
    gi_wp2
    go_wp2
    obtain ⟨z1, z2, z3, z4⟩ := HF.out
    obtain ⟨y1, y2, y3⟩ := set3_heap8 z3 (.int .i64 (sumK8 E)) (.int .i64 (sumI8 E)) (.int .i64 (sumD8 E))
    exact count_leave w _ D w.heap.size _ _ _ _ rfl y1 (y2 D _ z2 (fun e => by subst e; rw [z3] at z2; cases z2)) z1 (z4.trans y3)
end Go.Proofs.YtalfdjglbbmjcaaGreatDoor

/- measure: Base, Result, Inserted, Deleted, Document, Concat, Shift. -/
namespace Go.Proofs.YtalfdjglbbmjcaaGreatDoor
open Go Go.RowKit Go.Lib
set_option linter.unusedVariables false

theorem cbase_any (k i d : Int) (w : World) (h : (0 ≤ k ∧ k ≤ 1099511627776) ∧ 0 ≤ d ∧ d ≤ 1099511627776) :
    Calls Tryz.prog 95 #[.agg (cnt8 k i d)] w fun e w' => e = .returned (.int .i64 (k + d)) ∧ Below w.heap.size w w' := by
  have hz : IntKind.i64.wrap (k + d) = k + d := by rw [IntKind.wrap_i64]; omega
  go_enter Tryz.func95, Tryz.ntmps95
  go_wp2
  go_ret
  exact ⟨rfl, (Below.refl _ _).alloc (Nat.le_refl _) _⟩
theorem cresult_any (k i d : Int) (w : World) (h : (0 ≤ k ∧ k ≤ 1099511627776) ∧ 0 ≤ i ∧ i ≤ 1099511627776) :
    Calls Tryz.prog 96 #[.agg (cnt8 k i d)] w fun e w' => e = .returned (.int .i64 (k + i)) ∧ Below w.heap.size w w' := by
  have hz : IntKind.i64.wrap (k + i) = k + i := by rw [IntKind.wrap_i64]; omega
  go_enter Tryz.func96, Tryz.ntmps96
  go_wp2
  go_ret
  exact ⟨rfl, (Below.refl _ _).alloc (Nat.le_refl _) _⟩
/-- What is known of a delta's list. -/
structure DlE (w : World) (B1 B2 : Nat) (v : Value) (E : List Op5) : Prop where
  d : DelV w B1 B2 v E
  g : ∀ o ∈ E, opE o = 0
  fit : ∀ o ∈ E, FitA o
  len : E.length ≤ 2097152
  txt : txtS E ≤ 4194304
  fits : Fits8 E
theorem DlE.below {w w' : World} {B1 B2 : Nat} {v : Value} {E : List Op5} (h : DlE w B1 B2 v E) (b : Below w.heap.size w w') : DlE w' B1 B2 v E := ⟨h.d.below b, h.g, h.fit, h.len, h.txt, h.fits⟩
theorem DlE.wel {w : World} {B1 B2 : Nat} {v : Value} {E : List Op5} (h : DlE w B1 B2 v E) : ∀ o ∈ E, Wel o := fun o ho => wel_of (h.g o ho)
theorem DlE.n {w : World} {B1 B2 : Nat} {v : Value} {E : List Op5} (h : DlE w B1 B2 v E) : ∀ o ∈ E, o.A.length ≤ 2097152 := fun o ho => by have := (h.fit o ho).n; omega
theorem DlE.sums {w : World} {B1 B2 : Nat} {v : Value} {E : List Op5} (h : DlE w B1 B2 v E) : (0 ≤ sumK8 E ∧ sumK8 E ≤ 1099511627776) ∧ (0 ≤ sumI8 E ∧ sumI8 E ≤ 1099511627776) ∧ (0 ≤ sumD8 E ∧ sumD8 E ≤ 1099511627776) ∧ sumB E = sumK8 E + sumD8 E ∧ sumR E = sumK8 E + sumI8 E := by
  have h1 := sums_three h.wel
  have h2 := h.fits
  unfold Fits8 at h2
  omega
theorem count_any8 {B1 B2 : Nat} (v : Value) (E : List Op5) (w : World) (h : DlE w B1 B2 v E) :
    Calls Tryz.prog 94 #[v] w fun e w' => e = .returned (.agg (cnt8 (sumK8 E) (sumI8 E) (sumD8 E))) ∧ Below w.heap.size w w' :=
  count8_any v E w h.d h.g h.n (Nat.le_trans h.len (by decide)) h.fits
theorem base8_any {B1 B2 : Nat} (v : Value) (E : List Op5) (w : World) (h : DlE w B1 B2 v E) :
    Calls Tryz.prog 34 #[v] w fun e w' => e = .returned (.int .i64 (sumB E)) ∧ Below w.heap.size w w' := by
  have c := count_any8 v E w h
  have hs := h.sums
  have c2 := fun W => cbase_any (sumK8 E) (sumI8 E) (sumD8 E) W ⟨hs.1, hs.2.2.1⟩
  rw [← hs.2.2.2.1] at c2
  obtain ⟨q, pv, PL, rfl, _⟩ := h.d
  clear hs h
  go_enter Tryz.func34, Tryz.ntmps34
  go_wp2_with fail
  refine c.mono ?_; rintro r w2 ⟨rfl, b2⟩
  go_wp2_with fail
  refine (c2 _).mono ?_; rintro r w3 ⟨rfl, b3⟩
  have b := b2.trans (b3.mono b2.size)
  go_wp2
  go_ret
  exact ⟨rfl, b⟩
theorem result8_any {B1 B2 : Nat} (v : Value) (E : List Op5) (w : World) (h : DlE w B1 B2 v E) :
    Calls Tryz.prog 36 #[v] w fun e w' => e = .returned (.int .i64 (sumR E)) ∧ Below w.heap.size w w' := by
  have c := count_any8 v E w h
  have hs := h.sums
  have c2 := fun W => cresult_any (sumK8 E) (sumI8 E) (sumD8 E) W ⟨hs.1, hs.2.1⟩
  rw [← hs.2.2.2.2] at c2
  obtain ⟨q, pv, PL, rfl, _⟩ := h.d
  clear hs h
  go_enter Tryz.func36, Tryz.ntmps36
  go_wp2_with fail
  refine c.mono ?_; rintro r w2 ⟨rfl, b2⟩
  go_wp2_with fail
  refine (c2 _).mono ?_; rintro r w3 ⟨rfl, b3⟩
  have b := b2.trans (b3.mono b2.size)
  go_wp2
  go_ret
  exact ⟨rfl, b⟩
set_option maxRecDepth 100000 in
theorem ins8_any {B1 B2 : Nat} (v : Value) (E : List Op5) (w : World) (h : DlE w B1 B2 v E) :
    Calls Tryz.prog 38 #[v] w fun e w' => e = .returned (.int .i64 (sumI8 E)) ∧ Below w.heap.size w w' := by
  have c := count_any8 v E w h
  obtain ⟨q, pv, PL, rfl, _⟩ := h.d
  obtain ⟨K, hK⟩ : ∃ x, sumK8 E = x := ⟨_, rfl⟩
  obtain ⟨I, hI⟩ : ∃ x, sumI8 E = x := ⟨_, rfl⟩
  obtain ⟨D, hD⟩ : ∃ x, sumD8 E = x := ⟨_, rfl⟩
  rw [hK, hI, hD] at c
  rw [hI]
  have hfld : ∀ W : World, (Instr.field 146 (.agg #[.int .i64 K, .int .i64 I, .int .i64 D]) 1).run Tryz.prog W = .ok (.int .i64 I) W := fun _ => by kernel_rfl
  unfold cnt8 at c
  clear h hK hI hD
  go_enter Tryz.func38, Tryz.ntmps38
  go_wp2_with fail
  refine c.mono ?_; rintro r w2 ⟨rfl, b2⟩
  go_wp2
  go_ret
  exact ⟨rfl, b2⟩
set_option maxRecDepth 100000 in
theorem dl8_any {B1 B2 : Nat} (v : Value) (E : List Op5) (w : World) (h : DlE w B1 B2 v E) :
    Calls Tryz.prog 40 #[v] w fun e w' => e = .returned (.int .i64 (sumD8 E)) ∧ Below w.heap.size w w' := by
  have c := count_any8 v E w h
  obtain ⟨q, pv, PL, rfl, _⟩ := h.d
  obtain ⟨K, hK⟩ : ∃ x, sumK8 E = x := ⟨_, rfl⟩
  obtain ⟨I, hI⟩ : ∃ x, sumI8 E = x := ⟨_, rfl⟩
  obtain ⟨D, hD⟩ : ∃ x, sumD8 E = x := ⟨_, rfl⟩
  rw [hK, hI, hD] at c
  rw [hD]
  have hfld : ∀ W : World, (Instr.field 146 (.agg #[.int .i64 K, .int .i64 I, .int .i64 D]) 2).run Tryz.prog W = .ok (.int .i64 D) W := fun _ => by kernel_rfl
  unfold cnt8 at c
  clear h hK hI hD
  go_enter Tryz.func40, Tryz.ntmps40
  go_wp2_with fail
  refine c.mono ?_; rintro r w2 ⟨rfl, b2⟩
  go_wp2
  go_ret
  exact ⟨rfl, b2⟩
theorem doc8_any {B1 B2 : Nat} (v : Value) (E : List Op5) (w : World) (h : DlE w B1 B2 v E) :
    Calls Tryz.prog 42 #[v] w fun e w' => e = .returned (.bool (sumB E == 0)) ∧ Below w.heap.size w w' := by
  have c := base8_any v E w h
  obtain ⟨q, pv, PL, rfl, _⟩ := h.d
  clear h
  go_enter Tryz.func42, Tryz.ntmps42
  go_wp2_with fail
  refine c.mono ?_; rintro r w2 ⟨rfl, b2⟩
  go_wp2
  go_ret
  exact ⟨rfl, b2⟩
theorem pieD_append {w : World} {B : Nat} {P1 P2 : List Value} {E F : List Op5} (h : PieD w B P1 E) (k : PieD w B P2 F) : PieD w B (P1 ++ P2) (E ++ F) := forall2_append h k
theorem cat_bounds {E F : List Op5} (gE : ∀ o ∈ E, opE o = 0) (gF : ∀ o ∈ F, opE o = 0) : ∀ o ∈ E ++ F, opE o = 0 := fun o ho => (List.mem_append.1 ho).elim (gE o) (gF o)
/-- What Concat answers. -/
def CatR (a : Nat → Addr) (w w' : World) (L : List Op5) (dv er : Value) : Prop :=
  (Fits8 L → er = .nilIface ∧ DelV w' w.heap.size w.heap.size dv (canonL L)) ∧ (¬ Fits8 L → er = errV a 10 ∧ dv = .pointer none)
theorem delV_low {w : World} {B1 B2 C : Nat} {v : Value} {E : List Op5} (h : DelV w B1 B2 v E) (h1 : C ≤ B1) (h2 : C ≤ B2) : DelV w C C v E := by
  obtain ⟨q, pv, PL, x1, x2, x3, x4, x5⟩ := h
  exact ⟨q, pv, PL, x1, Nat.le_trans h1 x2, x3, own_weaken x4 h1, x5.weaken h2⟩
set_option maxHeartbeats 2000000 in
set_option maxRecDepth 100000 in
theorem concat8_any {I : List Nat} {a : Nat → Addr} {B1 B2 C1 C2 : Nat} (v u : Value) (E F : List Op5) (w : World) (hI : ∀ i ∈ IxO, i ∈ I) (hS : Std I a w) (hE : DlE w B1 B2 v E) (hF : DlE w C1 C2 u F) (hl : E.length + F.length ≤ 2097152) :
    Calls Tryz.prog 44 #[v, u] w fun r w' => ∃ dv er, r = .returned (.tuple #[dv, er]) ∧ CatR a w w' (E ++ F) dv er ∧ Below w.heap.size w w' := by
  have c1 := pieces_any v E w hE.d hE.g hE.n (Nat.le_trans hE.len (by decide))
  have HF : Hid (DlE w C1 C2 u F ∧ DlE w B1 B2 v E) := ⟨hF, hE⟩
  have HG : Hid (∀ (g : Value) (PL : List Value) (B D : Nat) W, Below w.heap.size w W → OwnI W B g PL → PieD W D PL (E ++ F) → Calls Tryz.prog 98 #[g] W fun r w' => ∃ dv er, r = .returned (.tuple #[dv, er]) ∧ Hid (CatR a w w' (E ++ F) dv er) ∧ Below w.heap.size w w') := fun g PL B D W hb h1 h2 => by
    have ht := hE.txt
    have ht2 := hF.txt
    refine (gath8_any g PL (E ++ F) W hI (hS.below hb) h1 h2 (cat_bounds hE.g hF.g) (fun o ho => (List.mem_append.1 ho).elim (hE.fit o) (hF.fit o)) (by rw [List.length_append]; exact hl) (by rw [txtS_append]; omega)).mono ?_
    rintro r w' ⟨dv, er, rfl, x1, x2, x3⟩
    exact ⟨dv, er, rfl, ⟨fun h => ⟨(x1 h).1, delV_low (x1 h).2 hb.size hb.size⟩, x2⟩, hb.trans (x3.mono hb.size)⟩
  obtain ⟨q1, pv1, PL1, rfl, _⟩ := hE.d
  obtain ⟨q2, pv2, PL2, rfl, _⟩ := hF.d
  clear hE hF hS
  go_enter Tryz.func44, Tryz.ntmps44
  go_wp2_with fail
  refine c1.mono ?_; rintro r w2 ⟨v2, rfl, ⟨P, own2, pie2⟩, b2⟩
  obtain ⟨p2, n2, rfl⟩ := own_slice own2
  have H2 : Hid (OwnI w2 w.heap.size (.slice p2 P.length n2) P ∧ PieD w2 w.heap.size P E) := ⟨own2, pie2⟩
  have h3 := HF.out.1.below b2
  have c2 := pieces_any _ F w2 h3.d h3.g h3.n (Nat.le_trans h3.len (by decide))
  clear c1 own2 pie2 h3
  go_wp2_with fail
  refine c2.mono ?_; rintro r w3 ⟨v3, rfl, ⟨Q, own3, pie3⟩, b3⟩
  obtain ⟨p3, n3, rfl⟩ := own_slice own3
  have ba : Below w3.heap.size w3 (w3.alloc (.cells #[.slice p2 P.length n2, .slice p3 Q.length n3] 93)) := (Below.refl _ _).alloc (Nat.le_refl _) _
  have b03 := b2.trans (b3.mono b2.size)
  have b04 := b03.trans (ba.mono b03.size)
  have H4 : Hid (OwnI (w3.alloc (.cells #[.slice p2 P.length n2, .slice p3 Q.length n3] 93)) w.heap.size (.slice p2 P.length n2) P ∧ OwnI (w3.alloc (.cells #[.slice p2 P.length n2, .slice p3 Q.length n3] 93)) w2.heap.size (.slice p3 Q.length n3) Q ∧ PieD (w3.alloc (.cells #[.slice p2 P.length n2, .slice p3 Q.length n3] 93)) w.heap.size (P ++ Q) (E ++ F)) :=
    ⟨owns_below (owns_below H2.out.1 b3) ba, owns_below own3 ba, pieD_append ((H2.out.2.below b3).below ba) ((pie3.weaken b2.size).below ba)⟩
  have hlP : P.length = E.length := forall2_len H2.out.2
  have hlQ : Q.length = F.length := forall2_len pie3
  have c3 := conc8_any (.slice p2 P.length n2) (.slice p3 Q.length n3) P Q w3.heap.size 2 (w3.alloc (.cells #[.slice p2 P.length n2, .slice p3 Q.length n3] 93)) (by simp) (by simp) H4.out.1 H4.out.2.1 (pie_one H2.out.2) (pie_one pie3) (by omega) (Nat.le_refl _)
  clear c2 own3 pie3 H2 hlP hlQ b03 b2 b3
  go_wp2_with fail
  refine c3.mono ?_; rintro r w5 ⟨v5, rfl, own5, b5⟩
  obtain ⟨p5, n5, e5⟩ := own_slice own5
  obtain ⟨m5, hm5⟩ : ∃ m, (P ++ Q).length = m := ⟨_, rfl⟩
  rw [hm5] at e5
  have c4 := HG.out v5 (P ++ Q) _ _ w5 (b04.trans (b5.mono b04.size)) own5 (H4.out.2.2.below b5)
  subst e5
  clear c3 own5 ba H4 HG hm5
  go_wp2_with fail
  refine c4.mono ?_; rintro r w6 ⟨dv, er, rfl, hR, b6⟩
  clear c4 b5 b04
  by_cases hf : Fits8 (E ++ F)
  · obtain ⟨rfl, hd⟩ := hR.out.1 hf
    obtain ⟨q, pv, PL, rfl, _⟩ := id hd
    clear hd hf
    go_wp2
    go_ret2
    exact ⟨_, _, rfl, hR.out, b6⟩
  · obtain ⟨rfl, rfl⟩ := hR.out.2 hf
    clear hf
    go_wp2
    go_ret2
    exact ⟨_, _, rfl, hR.out, b6⟩
end Go.Proofs.YtalfdjglbbmjcaaGreatDoor

/- A piece cut in two. -/
namespace Go.Proofs.YtalfdjglbbmjcaaGreatDoor
open Go Go.RowKit Go.Lib
set_option linter.unusedVariables false

theorem heap_drw7 (W : World) (k : Nat) : W.drew.heap[k]? = W.heap[k]? := rfl
theorem box3 (w : World) (o : Array Value) (T : TypeId) (W : World) (hW : (((w.alloc (.cells o T)).alloc (.cells o T)).alloc (.cells o T)).drew = W) : W.heap[w.heap.size + 1]? = some (.cells o T (0, 0)) ∧ W.heap[w.heap.size + 1 + 1]? = some (.cells o T (0, 0)) ∧ Below (w.heap.size + 1) (w.alloc (.cells o T)) W := by
  subst hW
  have e1 := heap_alloc_new (w.alloc (.cells o T)) (.cells o T)
  have e2 := heap_alloc_new ((w.alloc (.cells o T)).alloc (.cells o T)) (.cells o T)
  simp only [World.size_alloc] at e1 e2
  refine ⟨?_, e2, ?_⟩
  · exact ((Below.refl ((w.alloc (.cells o T)).alloc (.cells o T)).heap.size _).alloc (Nat.le_refl _) _).block (w.heap.size + 1) (by simp) |>.trans e1
  · exact (((Below.refl (w.alloc (.cells o T)).heap.size _).alloc (Nat.le_refl _) _).alloc (by simp) _).drew.mono (by simp)
set_option maxHeartbeats 2000000 in
set_option maxRecDepth 100000 in
theorem cutText_any (p : Option Addr) (l c : Nat) (t : ByteArray) (N : Int) (A : List A2) (rs : List Nat) (m : Nat) (w : World) (hR : RN w (.slice p l c) A) (hl : A.length ≤ 2097152)
    (hv : t.data.toList = encs rs) (hs : ∀ r ∈ rs, scal r) (hm : m ≤ rs.length) (ht : t.size ≤ 8388608) (hrl : rs.length ≤ t.size) (hN : (m : Int) ≤ N) (hN2 : N ≤ 8388608) :
    Calls Tryz.prog 136 #[.agg #[.slice p l c, .string t, .int .i64 N], .int .i64 m] w fun r w' => ∃ p' c', r = .returned (.tuple #[.iface 180 (.agg #[.slice p' A.length c', .string (t.extract 0 (pos rs m)), .int .i64 m]), .iface 180 (.agg #[.slice p l c, .string (t.extract (pos rs m) t.size), .int .i64 (N - m)])]) ∧ OwnA w' w.heap.size (.slice p' A.length c') A ∧ Below w.heap.size w w' := by
  have cP := fun W => placeOf_any t rs m W hv hs hm (by omega) hrl
  have cA := fun W (hW : Below w.heap.size w W) => attributes_any (.slice p l c) A W (hR.below hW).row hR.nz hl
  have hpt : pos rs m ≤ t.size := by have := pos_le rs m; have := size_toList t; rw [hv] at this; omega
  obtain ⟨x, hx⟩ : ∃ x, pos rs m = x := ⟨_, rfl⟩
  rw [hx] at hpt
  simp only [hx] at cP ⊢
  clear hR hl hv hs hx hrl
  go_enter Tryz.func136, Tryz.ntmps136
  go_upto_region 1 with fail
  go_cut [6, 7] (fun x6 x7 wx => ∃ X Y, x6 = .pointer (some ⟨X, 0, none⟩) ∧ x7 = .pointer (some ⟨Y, 0, none⟩) ∧ X ≠ Y ∧ w.heap.size < X ∧ w.heap.size < Y ∧ wx.heap[X]? = some (.cells #[.slice p l c, .string t, .int .i64 N] 180 (0, 0)) ∧ wx.heap[Y]? = some (.cells #[.slice p l c, .string t, .int .i64 N] 180 (0, 0)) ∧ Below (w.heap.size + 1) (w.alloc (.cells #[.slice p l c, .string t, .int .i64 N] 180)) wx)
  case first =>
    go_region
    all_goals (try go_wp2)
    all_goals go_meet
    all_goals obtain ⟨h1, h2, hB⟩ := box3 w _ _ _ rfl
    · exact ⟨_, _, rfl, rfl, by omega, by omega, by omega, h1, h2, hB⟩
    · exact ⟨_, _, rfl, rfl, by omega, by omega, by omega, h2, h1, hB⟩
  case rest =>
    obtain ⟨X, Y, rfl, rfl, nXY, lX, lY, hX, hY, hB⟩ := hcut
    have hb0 : Below w.heap.size w wc := ((Below.refl _ w).alloc (Nat.le_refl _) _).trans (hB.mono (by omega))
    have k0 : wc.heap[w.heap.size]? = some (.cells #[.slice p l c, .string t, .int .i64 N] 180 (0, 0)) := (hB.block _ (by omega)).trans (heap_alloc_new w _)
    have zX := (Array.getElem?_eq_some_iff.1 hX).1
    have zY := (Array.getElem?_eq_some_iff.1 hY).1
    have d1 : wc.cell? ⟨w.heap.size, 1, none⟩ = some (.string t) := by rw [cell_of_heap k0]; rfl
    go_wp2_with fail
    refine (cP _).mono ?_; rintro r w2 ⟨rfl, hb2⟩
    have b2 := hb0.trans (hb2.mono hb0.size)
    have m0 := heap_below hb2 k0
    have mX := heap_below hb2 hX
    have mY := heap_below hb2 hY
    clear d1 k0 hX hY hb0
    have d0 : w2.cell? ⟨w.heap.size, 0, none⟩ = some (.slice p l c) := by rw [cell_of_heap m0]; rfl
    go_wp2_with fail
    refine (cA _ b2).mono ?_; rintro r w3 ⟨v', rfl, own3, hb3⟩
    obtain ⟨p', c', rfl⟩ := own_slice own3
    have b3 := b2.trans (hb3.mono b2.size)
    have q0 := heap_below hb3 m0
    have qX := heap_below hb3 mX
    have qY := heap_below hb3 mY
    have d1 : w3.cell? ⟨w.heap.size, 1, none⟩ = some (.string t) := by rw [cell_of_heap q0]; rfl
    have x0 : w3.cell? ⟨X, 0, none⟩ = some (.slice p l c) := by rw [cell_of_heap qX]; rfl
    have x1 : w3.cell? ⟨X, 1, none⟩ = some (.string t) := by rw [cell_of_heap qX]; rfl
    have x2 : w3.cell? ⟨X, 2, none⟩ = some (.int .i64 N) := by rw [cell_of_heap qX]; rfl
    have y0 : w3.cell? ⟨Y, 0, none⟩ = some (.slice p l c) := by rw [cell_of_heap qY]; rfl
    have y1 : w3.cell? ⟨Y, 1, none⟩ = some (.string t) := by rw [cell_of_heap qY]; rfl
    have y2 : w3.cell? ⟨Y, 2, none⟩ = some (.int .i64 N) := by rw [cell_of_heap qY]; rfl
    have g0 : w3.frozen? ⟨X, 0, none⟩ = false := frozen_of_heap qX 0
    have g1 : w3.frozen? ⟨X, 1, none⟩ = false := frozen_of_heap qX 1
    have g2 : w3.frozen? ⟨X, 2, none⟩ = false := frozen_of_heap qX 2
    have k1 : w3.frozen? ⟨Y, 1, none⟩ = false := frozen_of_heap qY 1
    have k2 : w3.frozen? ⟨Y, 2, none⟩ = false := frozen_of_heap qY 2
    have n1 : ¬ X = w.heap.size := by omega
    have n2 : ¬ w.heap.size = X := by omega
    have n3 : ¬ Y = w.heap.size := by omega
    have n4 : ¬ w.heap.size = Y := by omega
    have n5 : ¬ X = Y := nXY
    have n6 : ¬ Y = X := Ne.symm nXY
    have z1 : w.heap.size ≤ X := by omega
    have z2 : w.heap.size ≤ Y := by omega
    have z3 : w.heap.size ≤ w2.heap.size := b2.size
    have hxt : (x : Int) ≤ t.size := by omega
    have hs3 : Hid (OwnA w3 w.heap.size (.slice p' A.length c') A ∧ (∀ k, (Value.slice p' A.length c').ownBlock = some k → k ≠ X ∧ k ≠ Y)) := ⟨own_weaken own3 z3, fun k hk => by have h1 := (owns_block own3 k hk).1; have := (Array.getElem?_eq_some_iff.1 mX).1; have := (Array.getElem?_eq_some_iff.1 mY).1; omega⟩
    have HB3 : Hid (Below w.heap.size w w3) := b3
    clear q0 qX qY m0 mX mY own3 hb3 b3 b2 hb2 d0 lX lY nXY hB zX zY cP cA
    go_wp2
    go_region
    go_wp2
    go_region
    go_wp2
    go_ret2
    refine ⟨p', c', rfl, ?_, ?_⟩
    · exact owns_same hs3.out.1 (fun k hk => by
        obtain ⟨e1, e2⟩ := hs3.out.2 k hk
        repeat (with_reducible first | (refine (heap_drw7 _ _).trans ?_) | (refine (Below.heap_setCell _ _ _ _ e1).trans ?_) | (refine (Below.heap_setCell _ _ _ _ e2).trans ?_) | rfl))
    · repeat (with_reducible first | exact HB3.out | (refine Below.drew ?_) | (refine Below.setCell ?_ (p := ⟨X, _, none⟩) z1 _) | (refine Below.setCell ?_ (p := ⟨Y, _, none⟩) z2 _))
end Go.Proofs.YtalfdjglbbmjcaaGreatDoor

/- The Walker's calls. -/
namespace Go.Proofs.YtalfdjglbbmjcaaGreatDoor
open Go Go.RowKit Go.Lib
set_option linter.unusedVariables false

theorem as_i_e7 (v : Value) (W : World) : (Instr.typeAssert (.iface 180 v) 56 184 true).run Tryz.prog W = .ok (.tuple #[.agg #[.slice none 0 0, .string ⟨#[]⟩, .nilIface], .bool false]) W := by kernel_rfl
/-- What comes next. -/
def top7 : List Op5 → Op5
  | [] => pl7 1099511627776
  | x :: _ => x
theorem top_left (R : List Op5) : len5 (top7 R) = left7 R := by
  cases R with
  | nil => exact (pl_good (by omega) (by omega)).2
  | cons x r => rfl
theorem top_kind (R : List Op5) : (top7 R).k = kind7 R := by cases R <;> rfl
theorem top_good {R : List Op5} (h : ∀ o ∈ R, opE o = 0) : opE (top7 R) = 0 := by
  cases R with
  | nil => exact (pl_good (by omega) (by omega)).1
  | cons x r => exact h x (List.mem_cons_self ..)
theorem pieceQ_pl (n : Int) : pieceQ (pl7 n) (.slice none 0 0) = .iface 157 (.agg #[.slice none 0 0, .int .i64 n]) := pieceQ_3 rfl
set_option maxHeartbeats 2000000 in
set_option maxRecDepth 100000 in
theorem next7_any {B q g : Nat} {R : List Op5} (w : World) (h : WkV w B q g R) :
    Calls Tryz.prog 111 #[.pointer (some ⟨q, 0, none⟩)] w fun r w' => ∃ s, r = .returned (pieceQ (top7 R) s) ∧ OwnA w' B s (top7 R).A ∧ Below w.heap.size w w' := by
  have cD := doneW_any w h
  cases R with
  | nil =>
    rw [decide_eq_true rfl] at cD
    clear h
    go_enter Tryz.func111, Tryz.ntmps111
    go_wp2_with fail
    refine cD.mono ?_; rintro r w2 ⟨rfl, hb2⟩
    clear cD
    go_wp2
    go_ret
    exact ⟨.slice none 0 0, by rw [← pieceQ_pl]; rfl, World.ownsRow_nil _ _ _ _, hb2⟩
  | cons x r =>
    rw [decide_eq_false (List.cons_ne_nil _ _)] at cD
    obtain ⟨off, cap, s, c0, _, hc, c1, _, hs⟩ := h.read1
    have hl : (0 : Int) < ((r.length + 1 : Nat) : Int) := by omega
    obtain ⟨n, hn⟩ : ∃ n, r.length + 1 = n := ⟨_, rfl⟩
    obtain ⟨u, y, hux⟩ := pieceQ_if x s
    have HU : Hid (pieceQ x s = .iface u y) := hux
    rw [hux] at c1
    rw [hn] at c0 hl hc
    clear h hux hn
    go_enter Tryz.func111, Tryz.ntmps111
    go_wp2_with fail
    refine cD.mono ?_; rintro r w2 ⟨rfl, hb2⟩
    have d0 := (hb2.cell (lt_of_cell c0)).trans c0
    have d1 := (hb2.cell (lt_of_cell c1)).trans c1
    have HS : Hid (OwnA w2 B s x.A) := owns_below hs hb2
    clear cD c0 c1 hs
    go_wp2
    go_ret
    exact ⟨s, by rw [show top7 (x :: _) = x from rfl, HU.out]; rfl, HS.out, hb2⟩
set_option maxHeartbeats 2000000 in
set_option maxRecDepth 100000 in
theorem kindOf_any (o : Op5) (p : Option Addr) (l c : Nat) (w : World) (hg : opE o = 0) :
    Calls Tryz.prog 110 #[pieceQ o (.slice p l c)] w fun r w' => r = .returned (.int .i64 o.k) ∧ Below w.heap.size w w' := by
  rcases kinds_of hg with hk | hk | hk | hk
  · rw [pieceQ_1 hk, hk]
    have a0 := as_i_i
    obtain ⟨n, hn⟩ : ∃ n : Int, ((scs o.t.data.toList).length : Int) = n := ⟨_, rfl⟩
    rw [hn]
    clear hg hk hn
    go_enter Tryz.func110, Tryz.ntmps110
    go_wp2
    go_ret
    exact ⟨rfl, Below.refl _ _⟩
  · rw [pieceQ_2 hk, hk]
    have a0 := as_e_i
    have a1 := as_e_e
    obtain ⟨V, hV⟩ : ∃ V, valP o.v = V := ⟨_, rfl⟩
    rw [hV]
    clear hg hk hV
    go_enter Tryz.func110, Tryz.ntmps110
    go_wp2
    go_ret
    exact ⟨rfl, Below.refl _ _⟩
  · rw [pieceQ_3 hk, hk]
    have a0 := as_r_i
    have a1 := as_r_e6
    have a2 := as_r_d
    clear hg hk
    go_enter Tryz.func110, Tryz.ntmps110
    go_wp2
    go_ret
    exact ⟨rfl, Below.refl _ _⟩
  · rw [pieceQ_4 hk, hk]
    have a0 := as_d_i
    have a1 := as_d_e6
    have a2 := as_d_d
    clear hg hk
    go_enter Tryz.func110, Tryz.ntmps110
    go_wp2
    go_ret
    exact ⟨rfl, Below.refl _ _⟩
set_option maxHeartbeats 2000000 in
set_option maxRecDepth 100000 in
theorem inserts_any (o : Op5) (p : Option Addr) (l c : Nat) (w : World) (hg : opE o = 0) :
    Calls Tryz.prog 116 #[pieceQ o (.slice p l c)] w fun r w' => r = .returned (.bool (decide (o.k = 1 ∨ o.k = 2))) ∧ Below w.heap.size w w' := by
  rcases kinds_of hg with hk | hk | hk | hk
  · rw [pieceQ_1 hk, decide_eq_true (Or.inl hk)]
    have a0 := as_i_i
    have a1 := as_i_e7
    obtain ⟨n, hn⟩ : ∃ n : Int, ((scs o.t.data.toList).length : Int) = n := ⟨_, rfl⟩
    rw [hn]
    clear hg hk hn
    go_enter Tryz.func116, Tryz.ntmps116
    go_wp2
    go_ret
    exact ⟨rfl, Below.refl _ _⟩
  · rw [pieceQ_2 hk, decide_eq_true (Or.inr hk)]
    have a0 := as_e_i
    have a1 := as_e_e
    obtain ⟨V, hV⟩ : ∃ V, valP o.v = V := ⟨_, rfl⟩
    rw [hV]
    clear hg hk hV
    go_enter Tryz.func116, Tryz.ntmps116
    go_wp2
    go_ret
    exact ⟨rfl, Below.refl _ _⟩
  · rw [pieceQ_3 hk, decide_eq_false (by omega)]
    have a0 := as_r_i
    have a1 := as_r_e6
    clear hg hk
    go_enter Tryz.func116, Tryz.ntmps116
    go_wp2
    go_ret
    exact ⟨rfl, Below.refl _ _⟩
  · rw [pieceQ_4 hk, decide_eq_false (by omega)]
    have a0 := as_d_i
    have a1 := as_d_e6
    clear hg hk
    go_enter Tryz.func116, Tryz.ntmps116
    go_wp2
    go_ret
    exact ⟨rfl, Below.refl _ _⟩
set_option maxHeartbeats 2000000 in
set_option maxRecDepth 100000 in
theorem kind7_any {B q g : Nat} {R : List Op5} (w : World) (h : WkV w B q g R) (hg : ∀ o ∈ R, opE o = 0) :
    Calls Tryz.prog 74 #[.pointer (some ⟨q, 0, none⟩)] w fun r w' => r = .returned (.int .i64 (kind7 R)) ∧ Below w.heap.size w w' := by
  have cN := next7_any w h
  have cK := fun p l c W => kindOf_any (top7 R) p l c W (top_good hg)
  rw [top_kind] at cK
  have HI := fun s => pieceQ_if (top7 R) s
  obtain ⟨PQ, hPQ⟩ : ∃ f : Value → Value, pieceQ (top7 R) = f := ⟨_, rfl⟩
  rw [hPQ] at cN cK HI
  clear h hg hPQ
  go_enter Tryz.func74, Tryz.ntmps74
  go_wp2_with fail
  refine cN.mono ?_; rintro r w2 ⟨s, rfl, own, hb2⟩
  obtain ⟨p, c, rfl⟩ := own_slice own
  have cK' := cK p (top7 R).A.length c w2
  obtain ⟨u, x, hx⟩ := HI (.slice p (top7 R).A.length c)
  rw [hx] at cK' ⊢
  clear cN cK HI own hx
  go_wp2_with fail
  refine cK'.mono ?_; rintro r w3 ⟨rfl, hb3⟩
  have b3 := hb2.trans (hb3.mono hb2.size)
  go_wp2
  go_ret
  exact ⟨rfl, b3⟩
set_option maxHeartbeats 2000000 in
set_option maxRecDepth 100000 in
theorem left7_any {B q g : Nat} {R : List Op5} (w : World) (h : WkV w B q g R) (hg : ∀ o ∈ R, opE o = 0) :
    Calls Tryz.prog 75 #[.pointer (some ⟨q, 0, none⟩)] w fun r w' => r = .returned (.int .i64 (left7 R)) ∧ Below w.heap.size w w' := by
  have cN := next7_any w h
  have ht := top_good hg
  have hl := top_left R
  obtain ⟨T, hT⟩ : ∃ T, top7 R = T := ⟨_, rfl⟩
  rw [hT] at cN ht hl
  rw [← hl]
  have HI := fun s => pieceQ_if T s
  obtain ⟨PQ, hPQ⟩ : ∃ f : Value → Value, pieceQ T = f := ⟨_, rfl⟩
  have HPQ : Hid (pieceQ T = PQ) := hPQ
  rw [hPQ] at cN HI
  clear h hg hPQ hl hT
  go_enter Tryz.func75, Tryz.ntmps75
  go_wp2_with fail
  refine cN.mono ?_; rintro r w2 ⟨s, rfl, own, hb2⟩
  obtain ⟨u, x, hx⟩ := HI s
  have HX : Hid (pieceQ T s = .iface u x) := by show _ = _; rw [HPQ.out, hx]
  rw [hx]
  clear cN HI own hx
  go_wp2_with (refine wpList_lenP rfl (.tmp 4) rfl T s HX.out.symm ht ?_; intro w3 hb3; have b3 := hb2.trans (hb3.mono hb2.size))
  go_ret
  exact ⟨rfl, b3⟩
end Go.Proofs.YtalfdjglbbmjcaaGreatDoor

/- measure: Shift. -/
namespace Go.Proofs.YtalfdjglbbmjcaaGreatDoor
open Go Go.RowKit Go.Lib
set_option linter.unusedVariables false

/-- Does a shift keep the bound? -/
def FitSh (E : List Op5) (n : Int) : Prop := E = [] ∨ (n + sumB E ≤ 1099511627776 ∧ n + sumR E ≤ 1099511627776)
/-- What Shift answers. -/
def ShR (a : Nat → Addr) (w' : World) (E : List Op5) (n : Int) (dv er : Value) : Prop :=
  ((n < 0 ∨ 1099511627776 < n) → dv = .pointer none ∧ er = errV a 11) ∧
  (¬ (n < 0 ∨ 1099511627776 < n) → (FitSh E n → er = .nilIface ∧ ∃ C1 C2, DelV w' C1 C2 dv (shift8 E n)) ∧ (¬ FitSh E n → er = errV a 10 ∧ dv = .pointer none))
theorem pl_sums (n : Int) (E : List Op5) : sumB (pl7 n :: E) = n + sumB E ∧ sumR (pl7 n :: E) = n + sumR E := by
  rw [sumB_cons, sumR_cons, base_3 (.inl rfl), res_3 rfl]
  exact ⟨rfl, rfl⟩
theorem fits_sh {E : List Op5} {n : Int} (h0 : E ≠ []) : Fits8 (pl7 n :: E) ↔ FitSh E n := by
  obtain ⟨h1, h2⟩ := pl_sums n E
  unfold Fits8 FitSh
  rw [h1, h2]
  simp [h0]
theorem own_oneP (w : World) (B : Nat) {g : Nat} {V : Value} (h : w.heap[g]? = some (.cells #[V] 56 (0, 0))) (hB : B ≤ g) : OwnI w B (.slice (some ⟨g, 0, none⟩) 1 1) [V] :=
  ⟨rfl, Or.inr ⟨g, 1, #[V], rfl, hB, h, Nat.le_refl _, by unfold maxLen; omega, rfl, rfl⟩⟩
abbrev plV8 (n : Int) : Value := .iface 157 (.agg #[.slice none 0 0, .int .i64 n])
theorem pl_fit (n : Int) : FitA (pl7 n) := ⟨by show (0 : Nat) ≤ 1048576; decide, fun q hq => (by cases hq), by show (0 : Nat) ≤ 1048576; decide⟩
set_option maxHeartbeats 2000000 in
set_option maxRecDepth 100000 in
theorem shift8_any {I : List Nat} {a : Nat → Addr} {B1 B2 : Nat} (v : Value) (E : List Op5) (n : Int) (w : World) (hI : ∀ i ∈ IxO, i ∈ I) (h11 : 11 ∈ I) (hS : Std I a w) (hE : DlE w B1 B2 v E) (hl : E.length + 1 ≤ 2097152) (hn : -9223372036854775808 ≤ n ∧ n ≤ 9223372036854775807) :
    Calls Tryz.prog 49 #[v, .int .i64 n] w fun r w' => ∃ dv er, r = .returned (.tuple #[dv, er]) ∧ ShR a w' E n dv er ∧ Below w.heap.size w w' := by
  have hd := hE.d
  obtain ⟨q1, pv1, PL1, rfl, _⟩ := id hd
  have cC := count_any5 _ E w hd
  by_cases hn0 : n < 0 ∨ 1099511627776 < n
  · have gL : w.cell? ⟨1, 0, none⟩ = some (errV a 11) := hS.er.cell 11 h11
    have HR : Hid (∀ W, ShR a W E n (.pointer none) (errV a 11)) := fun W => ⟨fun _ => ⟨rfl, rfl⟩, fun h => absurd hn0 h⟩
    clear cC hd hE hS
    by_cases h1 : n < 0
    · clear hn0
      go_enter Tryz.func49, Tryz.ntmps49
      go_wp2
      go_quiet (fail)
      go_wp2
      go_ret2
      exact ⟨_, _, rfl, HR.out _, below_drewN (Below.refl _ _) _⟩
    · have h2 : n > 1099511627776 := by omega
      clear hn0
      go_enter Tryz.func49, Tryz.ntmps49
      go_wp2
      go_quiet (fail)
      go_wp2
      go_ret2
      exact ⟨_, _, rfl, HR.out _, below_drewN (Below.refl _ _) _⟩
  · have h1 : ¬ n < 0 := by omega
    have h2 : ¬ n > 1099511627776 := by omega
    by_cases hz : n = 0
    · subst hz
      have HR : Hid (∀ W, Below w.heap.size w W → ShR a W E 0 (.pointer (some ⟨q1, 0, none⟩)) .nilIface) := fun W hW => ⟨fun h => absurd h hn0, fun _ => ⟨fun _ => ⟨rfl, B1, B2, by
        have e : shift8 E 0 = E := if_pos (Or.inl rfl)
        rw [e]; exact hd.below hW⟩, fun h => absurd (Or.inr (by have := hE.fits; unfold Fits8 at this; omega)) h⟩⟩
      clear hd hE hS cC hn0
      go_enter Tryz.func49, Tryz.ntmps49
      go_wp2
      go_ret2
      exact ⟨_, _, rfl, HR.out _ (Below.refl _ _), Below.refl _ _⟩
    · have hzb : (n == 0) = false := by simpa using hz
      by_cases h0 : E = []
      · subst h0
        have HR : Hid (∀ W, Below w.heap.size w W → ShR a W [] n (.pointer (some ⟨q1, 0, none⟩)) .nilIface) := fun W hW => ⟨fun h => absurd h hn0, fun _ => ⟨fun _ => ⟨rfl, B1, B2, by
          have e : shift8 [] n = [] := if_pos (Or.inr rfl)
          rw [e]; exact hd.below hW⟩, fun h => absurd (Or.inl rfl) h⟩⟩
        clear hd hE hS hn0 hz
        go_enter Tryz.func49, Tryz.ntmps49
        go_wp2_with fail
        refine cC.mono ?_; rintro r w2 ⟨rfl, b2⟩
        go_wp2
        go_ret2
        exact ⟨_, _, rfl, HR.out _ b2, b2⟩
      · have hlb : ((E.length : Int) == 0) = false := by simpa using h0
        have e8 : shift8 E n = canonL (pl7 n :: E) := if_neg (by simp [hz, h0])
        have cP : Hid (∀ W, Below w.heap.size w W → Calls Tryz.prog 85 #[.pointer (some ⟨q1, 0, none⟩)] W fun r w' => ∃ p nn PA, r = .returned (.slice p E.length nn) ∧ Hid (PA.length = E.length ∧ ∀ W', Below w'.heap.size w' W' → OwnI W' w.heap.size (.slice p E.length nn) PA ∧ PieD W' w.heap.size PA E) ∧ Below W.heap.size W w' ∧ Below w.heap.size w w') := fun W hW => by
          have h := hE.below hW
          refine (pieces_any _ E W h.d h.g h.n (Nat.le_trans h.len (by decide))).mono ?_
          rintro r w' ⟨v', rfl, ⟨P, own, pie⟩, b⟩
          have hPE : P.length = E.length := forall2_len pie
          obtain ⟨p, nn, rfl⟩ := own_slice own
          rw [hPE] at own ⊢
          exact ⟨p, nn, P, rfl, ⟨hPE, fun W' hb => ⟨owns_below (own_weaken own hW.size) hb, (pie.weaken hW.size).below hb⟩⟩, b, hW.trans (b.mono hW.size)⟩
        have cK : Hid (∀ W g1 b p nn PA, W.heap[g1]? = some (.cells #[plV8 n] 56 (0, 0)) → W.cell? ⟨b, 0, none⟩ = some (.slice (some ⟨g1, 0, none⟩) 1 1) → W.cell? ⟨b, 1, none⟩ = some (.slice p E.length nn) → w.heap.size ≤ g1 → PA.length = E.length → (OwnI W w.heap.size (.slice p E.length nn) PA ∧ PieD W w.heap.size PA E) → Below w.heap.size w W →
            Calls Tryz.prog 99 #[.slice (some ⟨b, 0, none⟩) 2 2] W fun r w' => ∃ p5 m5 n5 PQ, r = .returned (.slice p5 m5 n5) ∧ Hid (OwnI w' w.heap.size (.slice p5 m5 n5) PQ ∧ PieD w' w.heap.size PQ (pl7 n :: E)) ∧ Below w.heap.size w w') := fun W g1 b p nn PA hg hb0 hb1 hge hPE ⟨ho, hp⟩ hW => by
          refine (conc8_any (.slice (some ⟨g1, 0, none⟩) 1 1) (.slice p E.length nn) [plV8 n] PA b 2 W hb0 hb1 (own_oneP W w.heap.size hg hge) ho (by intro u hu; rw [List.mem_singleton.1 hu]; rfl) (pie_one hp) (by rw [hPE]; simp; omega) (Nat.le_refl _)).mono ?_
          rintro r w' ⟨v', rfl, own, b'⟩
          have h := hp.below b'
          have h2 : PieD w' w.heap.size ([plV8 n] ++ PA) ([pl7 n] ++ E) := forall2_append (.cons ⟨.slice none 0 0, (pieceQ_pl n).symm, World.ownsRow_nil _ _ _ _⟩ .nil) h
          obtain ⟨p5, n5, rfl⟩ := own_slice own
          exact ⟨p5, _, n5, _, rfl, ⟨own_weaken own hW.size, h2⟩, hW.trans (b'.mono hW.size)⟩
        have cG : Hid (∀ W p5 m5 n5 PQ, Below w.heap.size w W → (OwnI W w.heap.size (.slice p5 m5 n5) PQ ∧ PieD W w.heap.size PQ (pl7 n :: E)) → Calls Tryz.prog 98 #[.slice p5 m5 n5] W fun r w' => ∃ dv er, r = .returned (.tuple #[dv, er]) ∧ Hid (ShR a w' E n dv er) ∧ Below w.heap.size w w') := fun W p5 m5 n5 PQ hW ⟨ho, hp⟩ => by
          have hg : ∀ o ∈ pl7 n :: E, opE o = 0 := fun o ho => by
            rcases List.mem_cons.1 ho with rfl | ho
            · exact (pl_good (by omega) (by omega)).1
            · exact hE.g o ho
          refine (gath8_any _ PQ (pl7 n :: E) W hI (hS.below hW) ho hp hg (fun o ho => (List.mem_cons.1 ho).elim (fun e => e ▸ pl_fit n) (hE.fit o)) (by simpa using hl) (by rw [txtS_cons]; have := hE.txt; show 0 + _ ≤ _; omega)).mono ?_
          rintro r w' ⟨dv, er, rfl, x1, x2, x3⟩
          refine ⟨dv, er, rfl, ⟨fun h => absurd h hn0, fun _ => ⟨fun h => ?_, fun h => x2 (fun hf => h ((fits_sh h0).1 hf))⟩⟩, hW.trans (x3.mono hW.size)⟩
          obtain ⟨y1, y2⟩ := x1 ((fits_sh h0).2 h)
          rw [← e8] at y2
          exact ⟨y1, _, _, y2⟩
        obtain ⟨m, hm⟩ : ∃ m, E.length = m := ⟨_, rfl⟩
        rw [hm] at hlb cC cP cK
        have HM : Hid (E.length = m) := hm
        clear hd hE hS hn0 hz e8 hm hl
        go_enter Tryz.func49, Tryz.ntmps49
        go_wp2_with fail
        refine cC.mono ?_; rintro r w2 ⟨rfl, b2⟩
        have hz2 := b2.size
        obtain ⟨w3, hw3⟩ : ∃ W, w2.alloc (.cells #[.slice none 0 0, .int .i64 n] 157) = W := ⟨_, rfl⟩
        have b3 : Below w.heap.size w w3 := by rw [← hw3]; exact b2.trans (((Below.refl _ _).alloc (Nat.le_refl _) _).mono hz2)
        have k0 : w3.cell? ⟨w2.heap.size, 0, none⟩ = some (.slice none 0 0) := by rw [← hw3]; simp
        have k1 : w3.cell? ⟨w2.heap.size, 1, none⟩ = some (.int .i64 n) := by rw [← hw3]; simp
        go_upto_region 6 with fail
        try rw [hw3]
        obtain ⟨X, hX⟩ : ∃ X, w2.heap.size = X := ⟨_, rfl⟩
        rw [hX] at k0 k1 ⊢
        have bd : Below w.heap.size w w3.drew := b3.drew
        have bx : ∀ x, Below w.heap.size w (w3.alloc x).drew := fun x => (b3.alloc b3.size x).drew
        have h3d : Below w3.heap.size w3 w3.drew := (Below.refl _ _).drew
        have h3x : ∀ x, Below w3.heap.size w3 (w3.alloc x).drew := fun x => ((Below.refl _ _).alloc (Nat.le_refl _) x).drew
        have HC : Hid (∀ W', Below w3.heap.size w3 W' → W'.cell? ⟨X, 0, none⟩ = some (.slice none 0 0) ∧ W'.cell? ⟨X, 1, none⟩ = some (.int .i64 n)) := fun W' h => ⟨(h.cell (lt_of_cell k0)).trans k0, (h.cell (lt_of_cell k1)).trans k1⟩
        clear hw3 hX cC hz2 b2
        have md := HC.out _ (Below.refl w3.heap.size w3).drew
        have hzd : w.heap.size ≤ w3.heap.size := b3.size
        clear k0 k1
        go_region_with (first
          | (go_at_call 85; refine (cP.out _ ?_).mono ?_; (· first | exact bd | exact bx _); rintro r wA ⟨p, nn, PA, rfl, HA, bC, bA⟩; have mA := HC.out wA (by first | exact h3d.trans (bC.mono h3d.size) | exact (h3x _).trans (bC.mono (h3x _).size)))
          | (go_at_call 99; refine (cK.out _ w3.heap.size _ p nn PA (by exact heap_below ((Below.refl _ _).alloc (Nat.le_refl _) _) (heap_below bC (heap_alloc_new w3 _))) (by simp) (by simp) hzd HA.out.1 (HA.out.2 _ ((Below.refl _ _).alloc (Nat.le_refl _) _)) (bA.alloc bA.size _)).mono ?_; rintro r w5 ⟨p5, m5, n5, PQ, rfl, H5, b5⟩)
          | (go_at_call 99; refine (cK.out _ wA.heap.size _ p nn PA (by exact heap_below ((Below.refl _ _).alloc (Nat.le_refl _) _) (heap_alloc_new wA _)) (by simp) (by simp) bA.size HA.out.1 (HA.out.2 _ (((Below.refl _ _).alloc (Nat.le_refl _) _).alloc (by simp) _)) ((bA.alloc bA.size _).alloc (by simp; have := bA.size; omega) _)).mono ?_; rintro r w5 ⟨p5, m5, n5, PQ, rfl, H5, b5⟩)
          | (go_at_call 98; refine (cG.out _ _ _ _ PQ b5 H5.out).mono ?_; rintro r w6 ⟨dv, er, rfl, H6, b6⟩))
        all_goals (go_wp2; go_ret2; exact ⟨_, _, rfl, H6.out, b6⟩)
end Go.Proofs.YtalfdjglbbmjcaaGreatDoor

/- What vellumref04.Refuse and Check answer: what an insert is refused with. -/
namespace Go.Proofs.YtalfdjglbbmjcaaGreatDoor
open Go Go.RowKit Go.Lib
set_option linter.unusedVariables false

theorem Fit.tiny {o : Op5} (h : Fit o) : Tiny o.A := h.A

set_option maxHeartbeats 2000000 in
theorem ref_ins {I : List Nat} {a : Nat → Addr} (o : Op5) (s : Value) (w : World) (hS : Std I a w) (hR : RN w s o.A) (hF : Fit o) :
    Calls Tryz.prog 106 #[opV o s] w fun r w' => r = .returned (.int .i64 (insE o)) ∧ Below w.heap.size w w' := by
  have b0 := (Below.refl w.heap.size w).alloc (Nat.le_refl _) (.cells (opC o s) 33)
  have D0 := BoxO.new w o s
  have cU : Hid (∀ b, decide (brk o.t.data.toList = o.t.size) = b → ∀ W, Calls Tryz.prog 130 #[.string o.t] W fun r w' => r = .returned (.bool b) ∧ Below W.heap.size W w') := fun b hb W => ref_utf8 o.t W (by have := hF.t; omega) b hb
  have cV : Hid (∀ W, Calls Tryz.prog 131 #[pl o.v.1 o.v.2.1 o.v.2.2] W fun r w' => r = .returned (.int .i64 (chkP o.v)) ∧ Below W.heap.size W w') := fun W => ref_chk _ _ _ W (by have := hF.v; omega)
  have cA : Hid (∀ W, Below w.heap.size w W → Calls Tryz.prog 107 #[s, .bool false] W fun r w' => r = .returned (.int .i64 (listE false none o.A)) ∧ Below W.heap.size W w') := fun W hW => ref_check s o.A false W (hS.below hW) (hR.row.below hW) hF.tiny (by have := hF.n; omega)
  obtain ⟨E, hE⟩ : ∃ E, insE o = E := ⟨_, rfl⟩
  rw [hE]
  obtain ⟨V, hV⟩ : ∃ V, chkP o.v = V := ⟨_, rfl⟩
  obtain ⟨L, hL⟩ : ∃ L, listE false none o.A = L := ⟨_, rfl⟩
  rw [hV] at cV
  rw [hL] at cA
  have hE' : E = if fldE o ≠ 0 then fldE o else if brk o.t.data.toList ≠ o.t.size then 1 else if V ≠ 0 then V else L := by rw [← hE, ← hV, ← hL]; rfl
  have hz : o.v = z0 → V = 0 := fun h => by rw [← hV, h]; exact chk_z0
  obtain ⟨U, hU⟩ : ∃ U, decide (brk o.t.data.toList = o.t.size) = U := ⟨_, rfl⟩
  have hU' : (brk o.t.data.toList ≠ o.t.size) = (U = false) := by rw [← hU]; simp
  simp only [hU'] at hE'
  have cU : Hid (∀ W, Calls Tryz.prog 130 #[.string o.t] W fun r w' => r = .returned (.bool U) ∧ Below W.heap.size W w') := cU.out U hU
  clear hE hV hL hU hU' hF hS hR
  have HD : Hid (BoxO (w.alloc (.cells (opC o s) 33)) w.heap.size o s) := D0
  have HA : Hid (∀ W, Below (w.alloc (.cells (opC o s) 33)).heap.size (w.alloc (.cells (opC o s) 33)) W → Calls Tryz.prog 107 #[s, .bool false] W fun r w' => r = .returned (.int .i64 L) ∧ Below W.heap.size W w') := fun W hW => cA.out W (b0.trans (hW.mono b0.size))
  clear cA
  obtain ⟨k, t, ⟨x, n, u⟩, c, A⟩ := o
  obtain ⟨d0, d1, d2, d3, d4, d5, d6⟩ := D0
  simp only at d0 d1 d2 d3 d4 d5 d6 cU cV hz
  simp only [opC] at b0 d0 d1 d2 d3 d4 d5 d6 HD HA
  have gd := fun op x' y' w => guard_pl op x' y' (x, n, u) (0, 0, ⟨#[]⟩) w
  unfold fldE at hE'
  simp only at hE'
  have fin : ∀ w2, Below (w.alloc (.cells #[.int .i64 k, .string t, .int .i64 x, .int .i64 n, .string u, .int .i64 c, s] 33)).heap.size (w.alloc (.cells #[.int .i64 k, .string t, .int .i64 x, .int .i64 n, .string u, .int .i64 c, s] 33)) w2 → Below w.heap.size w w2 := fun w2 h => b0.trans (h.mono b0.size)
  by_cases k1 : k = 1
  · subst k1
    by_cases c0 : c = 0
    · subst c0
      cases he : t.toList.isEmpty with
      | true =>
        have hE2 : E = 9 := by rw [hE']; simp [he]
        subst hE2
        clear gd cU cV HA hz hE' HD fin
        go_enter Tryz.func106, Tryz.ntmps106
        go_wp2
        go_ret
        exact ⟨rfl, b0⟩
      | false =>
        by_cases hz0 : (x, n, u) = z0
        · have hne := neq_pl (x, n, u) (0, 0, ⟨#[]⟩) false (by rw [hz0]; show (!samP z0 z0) = false; rw [samP_self]; rfl)
          have hV0 := hz hz0
          cases U with
          | false =>
            have hE2 : E = 1 := by rw [hE']; simp [he, hz0]
            subst hE2
            clear hz hz0 hV0 cV HA hE' HD
            go_enter Tryz.func106, Tryz.ntmps106
            go_wp2_with fail
            refine (cU.out _).mono ?_; rintro r w2 ⟨rfl, h2⟩
            have b2 := fin _ h2
            go_wp2
            go_ret
            exact ⟨rfl, b2⟩
          | true =>
            have hE2 : E = L := by rw [hE', hV0]; simp [he, hz0]
            subst hE2
            clear hz hz0 hV0 cV hE'
            go_enter Tryz.func106, Tryz.ntmps106
            go_wp2_with fail
            refine (cU.out _).mono ?_; rintro r w2 ⟨rfl, h2⟩
            obtain ⟨p0, p1, p2, p3, p4, p5, p6⟩ := HD.out.below h2
            simp only at p0 p1 p2 p3 p4 p5 p6
            have c2 := HA.out _ h2
            have b2 := fin _ h2
            clear d0 d1 d2 d3 d4 d5 d6 h2
            go_wp2_with fail
            refine c2.mono ?_; rintro r w3 ⟨rfl, h3⟩
            go_wp2
            go_ret
            exact ⟨rfl, b2.trans (h3.mono b2.size)⟩
        · have hne := neq_pl (x, n, u) (0, 0, ⟨#[]⟩) true (by show (!samP (x, n, u) z0) = true; rw [samP_ne hz0]; rfl)
          have hE2 : E = 9 := by rw [hE']; simp [he, hz0]
          subst hE2
          clear hz hz0 cV cU HA hE' HD fin
          go_enter Tryz.func106, Tryz.ntmps106
          go_wp2
          go_ret
          exact ⟨rfl, b0⟩
    · have hc : (c == 0) = false := by simpa using c0
      have hE2 : E = 9 := by rw [hE']; simp [c0]
      subst hE2
      clear hz cV cU HA hE' HD fin c0
      go_enter Tryz.func106, Tryz.ntmps106
      go_wp2
      go_ret
      exact ⟨rfl, b0⟩
  · have hk1 : (k != 1) = true := by simpa using k1
    by_cases k2 : k = 2
    · subst k2
      clear hk1 k1
      by_cases c0 : c = 0
      · subst c0
        cases he : t.toList.isEmpty with
        | true =>
          have hE2 : E = 6 := by rw [hE']; simp [he]
          subst hE2
          clear gd cU cV HA hz hE' HD fin
          go_enter Tryz.func106, Tryz.ntmps106
          go_wp2
          go_ret
          exact ⟨rfl, b0⟩
        | false =>
          by_cases h64 : 64 < t.size
          · have h64I : (64 : Int) < (t.size : Int) := by omega
            have hE2 : E = 6 := by rw [hE']; simp [he, h64]
            subst hE2
            clear gd cU cV HA hz hE' HD fin
            go_enter Tryz.func106, Tryz.ntmps106
            go_wp2
            go_ret
            exact ⟨rfl, b0⟩
          · have h64I : ¬ (64 : Int) < (t.size : Int) := by omega
            cases U with
            | false =>
              have hE2 : E = 1 := by rw [hE']; simp [he, h64]
              subst hE2
              clear hz cV HA hE' HD gd
              go_enter Tryz.func106, Tryz.ntmps106
              go_wp2_with fail
              refine (cU.out _).mono ?_; rintro r w2 ⟨rfl, h2⟩
              have b2 := fin _ h2
              go_wp2
              go_ret
              exact ⟨rfl, b2⟩
            | true =>
              by_cases hV : V = 0
              · have hE2 : E = L := by rw [hE']; simp [he, h64, hV]
                subst hE2
                subst hV
                clear hz hE' gd
                go_enter Tryz.func106, Tryz.ntmps106
                go_wp2_with fail
                refine (cU.out _).mono ?_; rintro r w2 ⟨rfl, h2⟩
                obtain ⟨p0, p1, p2, p3, p4, p5, p6⟩ := HD.out.below h2
                simp only at p0 p1 p2 p3 p4 p5 p6
                clear d0 d1 d2 d3 d4 d5 d6
                go_wp2_with fail
                refine (cV.out _).mono ?_; rintro r w3 ⟨rfl, h3⟩
                have h23 := h2.trans (h3.mono h2.size)
                obtain ⟨q0, q1, q2, q3, q4, q5, q6⟩ := HD.out.below h23
                simp only at q0 q1 q2 q3 q4 q5 q6
                have c2 := HA.out _ h23
                have b3 := fin _ h23
                clear p0 p1 p2 p3 p4 p5 p6 h2 h3 h23
                go_wp2_with fail
                refine c2.mono ?_; rintro r w4 ⟨rfl, h4⟩
                go_wp2
                go_ret
                exact ⟨rfl, b3.trans (h4.mono b3.size)⟩
              · have hE2 : E = V := by rw [hE']; simp [he, h64, hV]
                subst hE2
                have hVI : ((E : Int) == 0) = false := by simp; omega
                clear hz hE' gd HA
                go_enter Tryz.func106, Tryz.ntmps106
                go_wp2_with fail
                refine (cU.out _).mono ?_; rintro r w2 ⟨rfl, h2⟩
                obtain ⟨p0, p1, p2, p3, p4, p5, p6⟩ := HD.out.below h2
                simp only at p0 p1 p2 p3 p4 p5 p6
                clear d0 d1 d2 d3 d4 d5 d6
                go_wp2_with fail
                refine (cV.out _).mono ?_; rintro r w3 ⟨rfl, h3⟩
                have b3 := fin _ (h2.trans (h3.mono h2.size))
                go_wp2
                go_ret
                exact ⟨rfl, b3⟩
      · have hc : (c == 0) = false := by simpa using c0
        have hE2 : E = 9 := by rw [hE']; simp [c0]
        subst hE2
        clear hz cV cU HA hE' HD fin c0 gd
        go_enter Tryz.func106, Tryz.ntmps106
        go_wp2
        go_ret
        exact ⟨rfl, b0⟩
    · have hk2 : (k != 2) = true := by simpa using k2
      have hE2 : E = 5 := by rw [hE']; simp [k1, k2]
      subst hE2
      clear hz cV cU HA hE' HD fin gd k1 k2
      go_enter Tryz.func106, Tryz.ntmps106
      go_wp2
      go_ret
      exact ⟨rfl, b0⟩
end Go.Proofs.YtalfdjglbbmjcaaGreatDoor

/- What vellumref04.Length answers of inserts. -/
namespace Go.Proofs.YtalfdjglbbmjcaaGreatDoor
open Go Go.RowKit Go.Lib
set_option linter.unusedVariables false

set_option maxHeartbeats 1000000 in
theorem refLen4_any (o : Op5) (s : Value) (w : World) (hO : Ins o) (ht : o.t.size ≤ 8388608) :
    Calls Tryz.prog 119 #[opV o s] w fun r w' => r = .returned (.int .i64 (lenO o)) ∧ Below w.heap.size w w' := by
  have b0 := (Below.refl w.heap.size w).alloc (Nat.le_refl _) (.cells (opC o s) 33)
  have c1 := fun W => ref_list o.t W (by omega)
  have hk := hO.kind
  unfold lenO
  obtain ⟨k, t, ⟨x, n, u⟩, c, A⟩ := o
  simp only at hk c1
  simp only [opC] at b0
  rcases hk with ⟨hk, hv⟩ | ⟨hk, hv⟩
  · clear hv
    subst hk
    rw [if_pos rfl]
    obtain ⟨n1, hn1⟩ : ∃ n, (scs t.data.toList).length = n := ⟨_, rfl⟩
    simp only [hn1] at c1 ⊢
    clear hn1
    go_enter Tryz.func119, Tryz.ntmps119
    go_wp2_with fail
    refine (c1 _).mono ?_; rintro r w2 ⟨v, rfl, _, ⟨g, cap, rfl⟩, hb2⟩
    have b2 := b0.trans (hb2.mono b0.size)
    go_wp2
    go_ret
    exact ⟨rfl, b2⟩
  · clear hv
    subst hk
    rw [if_neg (by show ¬ (2 : Int) = 1; decide)]
    go_enter Tryz.func119, Tryz.ntmps119
    go_wp2
    go_ret
    exact ⟨rfl, b0⟩
end Go.Proofs.YtalfdjglbbmjcaaGreatDoor

/- The document's answers for ops: empty, Check, Length, apart. -/
namespace Go.Proofs.YtalfdjglbbmjcaaGreatDoor
open Go Go.RowKit Go.Lib
set_option linter.unusedVariables false

/-- Are the fields empty that a kind doesn't have? -/
def emptyB (o : Op5) : Bool :=
  if o.k = 1 then o.c == 0 && decide (o.v = z0)
  else if o.k = 2 then o.c == 0
  else if o.k = 3 then o.t.toList.isEmpty && decide (o.v = z0)
  else if o.k = 4 then o.t.toList.isEmpty && decide (o.v = z0) && o.A.isEmpty
  else false
theorem opE_ref (o : Op5) : opE o = if emptyB o = false then 9 else if o.k = 1 ∨ o.k = 2 then insE o else if o.c < 1 then 9 else if 1099511627776 < o.c then 11 else if o.k = 3 then listE true none o.A else 0 := by
  unfold opE emptyB cntE
  by_cases k1 : o.k = 1
  · rw [if_pos (Or.inl k1), if_pos k1, if_pos (Or.inl k1)]
    by_cases hb : (o.c == 0 && decide (o.v = z0)) = false
    · rw [if_pos hb]
      have : fldE o = 9 := by
        unfold fldE
        rw [if_neg (fun h => h.1 k1), if_pos]
        by_cases hc : o.c = 0
        · by_cases hv : o.v = z0
          · simp [hc, hv] at hb
          · exact Or.inr ⟨k1, Or.inr hv⟩
        · exact Or.inl hc
      unfold insE
      rw [if_pos (by omega), this]
    · rw [if_neg hb]
  · by_cases k2 : o.k = 2
    · rw [if_pos (Or.inr k2), if_neg k1, if_pos k2, if_pos (Or.inr k2)]
      by_cases hb : (o.c == 0) = false
      · rw [if_pos hb]
        have : fldE o = 9 := by
          unfold fldE
          rw [if_neg (fun h => h.2 k2), if_pos]
          exact Or.inl (by simpa using hb)
        unfold insE
        rw [if_pos (by omega), this]
      · rw [if_neg hb]
    · have h12 : ¬ (o.k = 1 ∨ o.k = 2) := by omega
      rw [if_neg h12, if_neg k1, if_neg k2, if_neg h12]
      by_cases k3 : o.k = 3
      · rw [if_pos k3, if_pos k3, if_pos k3]
        cases ht : o.t.toList.isEmpty <;> by_cases hv : o.v = z0 <;> by_cases h1 : o.c < 1 <;> by_cases h2 : 1099511627776 < o.c <;> simp [hv, h1, h2]
      · rw [if_neg k3, if_neg k3, if_neg k3]
        by_cases k4 : o.k = 4
        · rw [if_pos k4, if_pos k4]
          cases ht : o.t.toList.isEmpty <;> by_cases hv : o.v = z0 <;> cases hA : o.A <;> by_cases h1 : o.c < 1 <;> by_cases h2 : 1099511627776 < o.c <;> simp [hv, h1, h2]
        · rw [if_neg k4, if_neg k4, if_pos rfl]

set_option maxHeartbeats 2000000 in
theorem refEmpty_any (o : Op5) (s : Value) (w : World) (hR : RowA w s o.A) :
    Calls Tryz.prog 105 #[opV o s] w fun r w' => r = .returned (.bool (emptyB o)) ∧ Below w.heap.size w w' := by
  have b0 := (Below.refl w.heap.size w).alloc (Nat.le_refl _) (.cells (opC o s) 33)
  obtain ⟨p, cc, rfl, _⟩ := hR.val
  clear hR
  obtain ⟨n9, hn9⟩ : ∃ m, o.A.length = m := ⟨_, rfl⟩
  have hAe : o.A.isEmpty = decide (n9 = 0) := by
    cases h : o.A with
    | nil => rw [h] at hn9; simp only [List.length_nil] at hn9; subst hn9; rfl
    | cons x r => rw [h] at hn9; simp only [List.length_cons] at hn9; rw [decide_eq_false (by omega)]; rfl
  have hnz : ((n9 : Int) == 0) = decide (n9 = 0) := by rw [Bool.eq_iff_iff]; simp
  rw [hn9] at b0 ⊢
  unfold emptyB
  rw [hAe]
  clear hAe hn9
  obtain ⟨k, t, ⟨x, n, u⟩, c, A⟩ := o
  simp only [opC] at b0 ⊢
  have gd := fun op x' y' w => guard_pl op x' y' (x, n, u) (0, 0, ⟨#[]⟩) w
  obtain ⟨bv, hbv⟩ : ∃ b, decide (((x, n, u) : P3) = z0) = b := ⟨_, rfl⟩
  have hne := eql_pl (x, n, u) (0, 0, ⟨#[]⟩) bv (by
    rw [← hbv]
    by_cases h : ((x, n, u) : P3) = z0
    · rw [decide_eq_true h, h]; exact samP_self _
    · rw [decide_eq_false h]; exact samP_ne h)
  rw [hbv]
  clear hbv
  by_cases k1 : k = 1
  · subst k1
    rw [if_pos rfl]
    clear hnz
    cases hc : (c == 0) with
    | false =>
      go_enter Tryz.func105, Tryz.ntmps105
      go_wp2
      go_ret
      exact ⟨rfl, b0⟩
    | true =>
      go_enter Tryz.func105, Tryz.ntmps105
      go_wp2
      go_ret
      exact ⟨rfl, b0⟩
  · have e1 : (k == 1) = false := by simpa using k1
    rw [if_neg k1]
    by_cases k2 : k = 2
    · subst k2
      rw [if_pos rfl]
      clear hnz hne gd
      go_enter Tryz.func105, Tryz.ntmps105
      go_wp2
      go_ret
      exact ⟨rfl, b0⟩
    · have e2 : (k == 2) = false := by simpa using k2
      rw [if_neg k2]
      by_cases k3 : k = 3
      · subst k3
        rw [if_pos rfl]
        clear hnz e1 e2
        cases ht : t.toList.isEmpty with
        | false =>
          go_enter Tryz.func105, Tryz.ntmps105
          go_wp2
          go_ret
          exact ⟨rfl, b0⟩
        | true =>
          go_enter Tryz.func105, Tryz.ntmps105
          go_wp2
          go_ret
          exact ⟨rfl, b0⟩
      · have e3 : (k == 3) = false := by simpa using k3
        rw [if_neg k3]
        by_cases k4 : k = 4
        · subst k4
          rw [if_pos rfl]
          clear e1 e2 e3
          cases ht : t.toList.isEmpty with
          | false =>
            go_enter Tryz.func105, Tryz.ntmps105
            go_wp2
            go_ret
            exact ⟨rfl, b0⟩
          | true =>
            cases bv with
            | false =>
              go_enter Tryz.func105, Tryz.ntmps105
              go_wp2
              go_ret
              exact ⟨rfl, b0⟩
            | true =>
              go_enter Tryz.func105, Tryz.ntmps105
              go_wp2
              go_ret
              exact ⟨rfl, b0⟩
        · have e4 : (k == 4) = false := by simpa using k4
          rw [if_neg k4]
          clear hnz hne gd
          go_enter Tryz.func105, Tryz.ntmps105
          go_wp2
          go_ret
          exact ⟨rfl, b0⟩

set_option maxHeartbeats 2000000 in
theorem refCheckO_any {I : List Nat} {a : Nat → Addr} (o : Op5) (s : Value) (w : World) (hS : Std I a w) (hR : RN w s o.A) (hF : Fit o) :
    Calls Tryz.prog 69 #[opV o s] w fun r w' => r = .returned (.int .i64 (opE o)) ∧ Below w.heap.size w w' := by
  have b0 := (Below.refl w.heap.size w).alloc (Nat.le_refl _) (.cells (opC o s) 33)
  have D0 := BoxO.new w o s
  have c1 := refEmpty_any o s _ (hR.row.below b0)
  have cI : Hid (∀ W, Below (w.alloc (.cells (opC o s) 33)).heap.size (w.alloc (.cells (opC o s) 33)) W → Calls Tryz.prog 106 #[opV o s] W fun r w' => r = .returned (.int .i64 (insE o)) ∧ Below W.heap.size W w') := fun W hW => ref_ins o s W ((hS.below b0).below hW) ((hR.below b0).below hW) hF
  have cA : Hid (∀ W, Below (w.alloc (.cells (opC o s) 33)).heap.size (w.alloc (.cells (opC o s) 33)) W → Calls Tryz.prog 107 #[s, .bool true] W fun r w' => r = .returned (.int .i64 (listE true none o.A)) ∧ Below W.heap.size W w') := fun W hW => ref_check s o.A true W ((hS.below b0).below hW) ((hR.row.below b0).below hW) hF.tiny (by have := hF.n; omega)
  have hE := opE_ref o
  obtain ⟨E, hEE⟩ : ∃ E, opE o = E := ⟨_, rfl⟩
  obtain ⟨i9, hi9⟩ : ∃ i, insE o = i := ⟨_, rfl⟩
  obtain ⟨l9, hl9⟩ : ∃ l, listE true none o.A = l := ⟨_, rfl⟩
  obtain ⟨eb, heb⟩ : ∃ l, emptyB o = l := ⟨_, rfl⟩
  rw [hEE, hi9, hl9, heb] at hE
  rw [hEE]
  rw [hi9] at cI
  rw [hl9] at cA
  rw [heb] at c1
  clear hS hR hF hEE hi9 hl9 heb
  have HD : Hid (BoxO (w.alloc (.cells (opC o s) 33)) w.heap.size o s) := D0
  obtain ⟨k, t, ⟨x, n, u⟩, c, A⟩ := o
  simp only [opC] at b0 c1 cI cA HD hE
  clear D0
  cases eb with
  | false =>
    rw [if_pos rfl] at hE
    subst hE
    clear cI cA HD
    go_enter Tryz.func69, Tryz.ntmps69
    go_wp2_with fail
    refine c1.mono ?_; rintro r w2 ⟨rfl, hb2⟩
    have b2 := b0.trans (hb2.mono b0.size)
    clear c1 b0 hb2
    go_wp2
    go_ret
    exact ⟨rfl, b2⟩
  | true =>
    rw [if_neg (by simp)] at hE
    by_cases k1 : k = 1
    · rw [if_pos (Or.inl k1)] at hE
      subst hE k1
      go_enter Tryz.func69, Tryz.ntmps69
      go_wp2_with fail
      refine c1.mono ?_; rintro r w2 ⟨rfl, hb2⟩
      have b2 := b0.trans (hb2.mono b0.size)
      obtain ⟨d0, d1, d2, d3, d4, d5, d6⟩ := HD.out.below hb2
      simp only at d0 d1 d2 d3 d4 d5 d6
      have c2 := cI.out _ hb2
      clear c1 b0 hb2
      go_wp2_with fail
      refine c2.mono ?_; rintro r w3 ⟨rfl, hb3⟩
      have b3 := b2.trans (hb3.mono b2.size)
      clear c2 b2 hb3
      go_wp2
      go_ret
      exact ⟨rfl, b3⟩
    · have e1 : (k == 1) = false := by simpa using k1
      by_cases k2 : k = 2
      · rw [if_pos (Or.inr k2)] at hE
        subst hE k2
        clear k1 e1
        go_enter Tryz.func69, Tryz.ntmps69
        go_wp2_with fail
        refine c1.mono ?_; rintro r w2 ⟨rfl, hb2⟩
        have b2 := b0.trans (hb2.mono b0.size)
        obtain ⟨d0, d1, d2, d3, d4, d5, d6⟩ := HD.out.below hb2
        simp only at d0 d1 d2 d3 d4 d5 d6
        have c2 := cI.out _ hb2
        clear c1 b0 hb2
        go_wp2_with fail
        refine c2.mono ?_; rintro r w3 ⟨rfl, hb3⟩
        have b3 := b2.trans (hb3.mono b2.size)
        clear c2 b2 hb3
        go_wp2
        go_ret
        exact ⟨rfl, b3⟩
      · have e2 : (k == 2) = false := by simpa using k2
        rw [if_neg (by omega)] at hE
        by_cases h1 : c < 1
        · rw [if_pos h1] at hE
          subst hE
          clear cI cA
          go_enter Tryz.func69, Tryz.ntmps69
          go_wp2_with fail
          refine c1.mono ?_; rintro r w2 ⟨rfl, hb2⟩
          have b2 := b0.trans (hb2.mono b0.size)
          obtain ⟨d0, d1, d2, d3, d4, d5, d6⟩ := HD.out.below hb2
          simp only at d0 d1 d2 d3 d4 d5 d6
          clear c1 b0 hb2
          go_wp2
          go_ret
          exact ⟨rfl, b2⟩
        · rw [if_neg h1] at hE
          by_cases h2 : 1099511627776 < c
          · rw [if_pos h2] at hE
            subst hE
            clear cI cA
            go_enter Tryz.func69, Tryz.ntmps69
            go_wp2_with fail
            refine c1.mono ?_; rintro r w2 ⟨rfl, hb2⟩
            have b2 := b0.trans (hb2.mono b0.size)
            obtain ⟨d0, d1, d2, d3, d4, d5, d6⟩ := HD.out.below hb2
            simp only at d0 d1 d2 d3 d4 d5 d6
            clear c1 b0 hb2
            go_wp2
            go_ret
            exact ⟨rfl, b2⟩
          · rw [if_neg h2] at hE
            by_cases k3 : k = 3
            · rw [if_pos k3] at hE
              subst hE k3
              clear cI k1 k2 e1 e2
              go_enter Tryz.func69, Tryz.ntmps69
              go_wp2_with fail
              refine c1.mono ?_; rintro r w2 ⟨rfl, hb2⟩
              have b2 := b0.trans (hb2.mono b0.size)
              obtain ⟨d0, d1, d2, d3, d4, d5, d6⟩ := HD.out.below hb2
              simp only at d0 d1 d2 d3 d4 d5 d6
              have c2 := cA.out _ hb2
              clear c1 b0 hb2
              go_wp2_with fail
              refine c2.mono ?_; rintro r w3 ⟨rfl, hb3⟩
              have b3 := b2.trans (hb3.mono b2.size)
              clear c2 b2 hb3
              go_wp2
              go_ret
              exact ⟨rfl, b3⟩
            · have e3 : (k == 3) = false := by simpa using k3
              rw [if_neg k3] at hE
              subst hE
              clear cI cA
              go_enter Tryz.func69, Tryz.ntmps69
              go_wp2_with fail
              refine c1.mono ?_; rintro r w2 ⟨rfl, hb2⟩
              have b2 := b0.trans (hb2.mono b0.size)
              obtain ⟨d0, d1, d2, d3, d4, d5, d6⟩ := HD.out.below hb2
              simp only at d0 d1 d2 d3 d4 d5 d6
              clear c1 b0 hb2
              go_wp2
              go_ret
              exact ⟨rfl, b2⟩
set_option maxHeartbeats 1000000 in
theorem refLenO_any (o : Op5) (s : Value) (w : World) (hg : opE o = 0) (hF : Fit o) :
    Calls Tryz.prog 97 #[opV o s] w fun r w' => r = .returned (.int .i64 (len5 o)) ∧ Below w.heap.size w w' := by
  have b0 := (Below.refl w.heap.size w).alloc (Nat.le_refl _) (.cells (opC o s) 33)
  have cI : o.k = 1 ∨ o.k = 2 → Calls Tryz.prog 119 #[opV o s] (w.alloc (.cells (opC o s) 33)) fun r w' => r = .returned (.int .i64 (lenO o)) ∧ Below (w.alloc (.cells (opC o s) 33)).heap.size (w.alloc (.cells (opC o s) 33)) w' := fun hk => by
    rcases op_good hg with ⟨hi, _⟩ | ⟨_, _, h3⟩ | ⟨_, _, h4⟩
    · exact refLen4_any o s _ hi hF.t
    · omega
    · omega
  unfold len5
  obtain ⟨L, hL⟩ : ∃ L : Int, (lenO o : Int) = L := ⟨_, rfl⟩
  rw [hL] at cI ⊢
  clear hg hF hL
  obtain ⟨k, t, ⟨x, n, u⟩, c, A⟩ := o
  simp only [opC] at b0 cI ⊢
  by_cases k1 : k = 1
  · rw [if_pos (Or.inl k1)]
    have c1 := cI (Or.inl k1)
    subst k1
    clear cI
    go_enter Tryz.func97, Tryz.ntmps97
    go_wp2_with fail
    refine c1.mono ?_; rintro r w2 ⟨rfl, hb2⟩
    have b2 := b0.trans (hb2.mono b0.size)
    clear c1 b0 hb2
    go_wp2
    go_ret
    exact ⟨rfl, b2⟩
  · have e1 : (k == 1) = false := by simpa using k1
    by_cases k2 : k = 2
    · rw [if_pos (Or.inr k2)]
      have c1 := cI (Or.inr k2)
      subst k2
      clear cI
      go_enter Tryz.func97, Tryz.ntmps97
      go_wp2_with fail
      refine c1.mono ?_; rintro r w2 ⟨rfl, hb2⟩
      have b2 := b0.trans (hb2.mono b0.size)
      clear c1 b0 hb2
      go_wp2
      go_ret
      exact ⟨rfl, b2⟩
    · have e2 : (k == 2) = false := by simpa using k2
      rw [if_neg (by omega)]
      clear cI
      go_enter Tryz.func97, Tryz.ntmps97
      go_wp2
      go_ret
      exact ⟨rfl, b0⟩
set_option maxHeartbeats 1000000 in
theorem refApart_any (o o' : Op5) (s s' : Value) (w : World) (hA : RowA w s o.A) (hB : RowA w s' o'.A) (hl : o.A.length ≤ 4194304) (hl2 : o'.A.length ≤ 4194304) :
    Calls Tryz.prog 93 #[opV o s, opV o' s'] w fun r w' => r = .returned (.bool (apartB o o')) ∧ Below w.heap.size w w' := by
  have b0 := ((Below.refl w.heap.size w).alloc (Nat.le_refl _) (.cells (opC o s) 33)).alloc (by simp) (.cells (opC o' s') 33)
  have cS := from_below b0 (sameAttrs_any s s' o.A o'.A _ (hA.below b0) (hB.below b0) (by omega) (by omega))
  obtain ⟨pa, ca, rfl, _⟩ := hA.val
  obtain ⟨pb, cb, rfl, _⟩ := hB.val
  unfold apartB
  obtain ⟨q, hq⟩ : ∃ q, decide (o.A = o'.A) = q := ⟨_, rfl⟩
  rw [hq] at cS ⊢
  obtain ⟨k, t, ⟨x, n, u⟩, c, A⟩ := o
  obtain ⟨k', t', ⟨x', n', u'⟩, c', A'⟩ := o'
  simp only [opC] at b0 cS hq ⊢
  clear hA hB hl hl2 hq
  by_cases k4 : k = 4
  · subst k4
    rw [if_pos rfl]
    clear cS
    go_enter Tryz.func93, Tryz.ntmps93
    go_wp2
    go_ret
    exact ⟨rfl, b0⟩
  · have e4 : (k == 4) = false := by simpa using k4
    rw [if_neg k4]
    by_cases hkk : k = k'
    · subst hkk
      by_cases k2 : k = 2
      · subst k2
        rw [if_pos (Or.inr rfl)]
        clear cS
        go_enter Tryz.func93, Tryz.ntmps93
        go_wp2
        go_ret
        exact ⟨rfl, b0⟩
      · have e2 : (k == 2) = false := by simpa using k2
        rw [if_neg (by simp [k2])]
        go_enter Tryz.func93, Tryz.ntmps93
        go_wp2_with fail
        refine cS.mono ?_; rintro r w2 ⟨rfl, hb2⟩
        go_wp2
        go_ret
        exact ⟨rfl, hb2⟩
    · have e5 : (k != k') = true := by simpa using hkk
      rw [if_pos (Or.inl hkk)]
      clear cS
      go_enter Tryz.func93, Tryz.ntmps93
      go_wp2
      go_ret
      exact ⟨rfl, b0⟩
end Go.Proofs.YtalfdjglbbmjcaaGreatDoor

/- The document's answers for lists of operations: Bad, Lengths, Canonical. -/
namespace Go.Proofs.YtalfdjglbbmjcaaGreatDoor
open Go Go.RowKit Go.Lib
set_option linter.unusedVariables false

set_option maxHeartbeats 2000000 in
set_option maxRecDepth 100000 in
theorem refBad_any {I : List Nat} {a : Nat → Addr} (v : Value) (E : List Op5) (w : World) (hS : Std I a w) (hv : ReO w v E) (hF : FitL E) (hl : E.length ≤ 1048576) :
    Calls Tryz.prog 126 #[v] w fun r w' => r = .returned (.tuple #[.int .i64 (badP E).1, .int .i64 (badP E).2]) ∧ Below w.heap.size w w' := by
  obtain ⟨D0, hrow, hre⟩ := hv
  have hDE := forall2_len hre
  obtain ⟨n, hn⟩ : ∃ n, D0.length = n := ⟨_, rfl⟩
  obtain ⟨p, cap, rfl, hcap, hnz, hc⟩ := hrow
  have HC : Hid (∀ (j : Nat) (d : OV), D0[j]? = some d → ∃ b off, p = some ⟨b, off, none⟩ ∧ OpAt w b (off + j * 7) d) := hc
  have HN : Hid (D0.length = n ∧ E.length = n) := ⟨hn, by rw [← hDE, hn]⟩
  have hl : n ≤ 1048576 := by rw [← hn, hDE]; exact hl
  have HK : Hid (∀ (k : Nat) d, D0[k]? = some d → ∃ e, E[k]? = some e ∧ ∀ W, Below w.heap.size w W → Calls Tryz.prog 69 #[ovV d] W fun r w' => r = .returned (.int .i64 (opE e)) ∧ Below W.heap.size W w') := fun k d h1 => by
    obtain ⟨y, hy, r1⟩ := forall2_get hre k d h1
    have fy := hF y (List.mem_of_getElem? hy)
    refine ⟨y, hy, fun W hW => ?_⟩
    rw [opV_of r1]
    exact refCheckO_any y _ W (hS.below hW) (r1.2.2.2.2.below hW) fy
  rw [hn] at hcap ⊢
  clear hc hn hDE hre hnz hF hS
  go_enter Tryz.func126, Tryz.ntmps126
  go_wp2
  go_loopw [4, 5] (fun i _ wr => ∃ (k : Nat), k ≤ n ∧ i = .int .i64 k ∧ Hid (∀ x ∈ E.take k, opE x = 0) ∧ Below w.heap.size w wr) (fun i _ _ => n - (RowKit.intOf i).toNat)
  case atStart => exact ⟨0, Nat.zero_le _, rfl, fun x hx => by simp at hx, Below.refl _ _⟩
  case round =>
    obtain ⟨k, hk, rfl, HG, hbw⟩ := hrel
    by_cases hlt : k < n
    · have hltI : (k : Int) < n := by omega
      obtain ⟨d, hd⟩ : ∃ d, D0[k]? = some d := ⟨_, List.getElem?_eq_getElem (by rw [HN.out.1]; exact hlt)⟩
      obtain ⟨e, he, cc⟩ := HK.out k d hd
      obtain ⟨b, off, rfl, hp⟩ := HC.out k d hd
      obtain ⟨c0, c1, c2, c3, c4, c5, c6⟩ := hp.below hbw
      have c9 := cc _ hbw
      have HT : Hid (E.take (k + 1) = E.take k ++ [e] ∧ E[k]? = some e) := by refine ⟨?_, he⟩; rw [List.take_add_one, he]; rfl
      clear hp hd he cc
      obtain ⟨dk, dt, ⟨dx, dn, du⟩, dc, ds⟩ := d
      obtain ⟨dp, dl, dcap⟩ := ds
      simp only [slV] at c0 c1 c2 c3 c4 c5 c6
      simp only [ovV, ovC, slV] at c9
      cases hg : opE e with
      | zero =>
        rw [hg] at c9
        have hz : (((0 : Nat) : Int) != 0) = false := by decide
        have HG' : Hid (∀ x ∈ E.take (k + 1), opE x = 0) := fun x hx => by
          rw [HT.out.1, List.mem_append] at hx
          rcases hx with hx | hx
          · exact HG.out x hx
          · rw [List.mem_singleton.1 hx]; exact hg
        clear hg HG HT
        go_wp2_with fail
        refine c9.mono ?_; rintro r w5 ⟨rfl, hb5⟩
        have b5 := hbw.trans (hb5.mono hbw.size)
        clear c9 hb5 c0 c1 c2 c3 c4 c5 c6
        go_wp2
        go_roundw
        case rel => exact ⟨k + 1, by omega, by go_num, HG', b5⟩
        case measure => simp [RowKit.intOf]; omega
      | succ x =>
        have HB : Hid (badP E = (k, x + 1)) := by
          have := bad_at HT.out.2 HG.out (by omega)
          rw [hg] at this; exact this
        rw [hg] at c9
        obtain ⟨z, hz⟩ : ∃ z : Int, ((x + 1 : Nat) : Int) = z := ⟨_, rfl⟩
        have hz0 : (z != 0) = true := by rw [← hz, bne_iff_ne]; omega
        rw [hz] at c9
        have HZ : Hid (((x + 1 : Nat) : Int) = z) := hz
        clear hg HG HT hz
        go_wp2_with fail
        refine c9.mono ?_; rintro r w5 ⟨rfl, hb5⟩
        have b5 := hbw.trans (hb5.mono hbw.size)
        clear c9 hb5 c0 c1 c2 c3 c4 c5 c6
        go_wp2
        go_ret2
        exact ⟨by rw [HB.out]; simp only []; rw [HZ.out]; rfl, b5⟩
    · have hltI : ¬ (k : Int) < n := by omega
      have HB : Hid (badP E = (0, 0)) := bad_none (by have := HG.out; rwa [List.take_of_length_le (by rw [HN.out.2]; omega)] at this)
      go_wp2
      go_ret2
      exact ⟨by rw [HB.out]; rfl, hbw⟩

set_option maxHeartbeats 4000000 in
set_option maxRecDepth 100000 in
theorem refLens_any {I : List Nat} {a : Nat → Addr} (v : Value) (E : List Op5) (w : World) (hS : Std I a w) (hv : ReO w v E) (hF : FitL E) (hl : E.length ≤ 1048576) :
    Calls Tryz.prog 92 #[v] w fun r w' => r = .returned (.tuple #[.int .i64 (lensL E).1, .int .i64 (lensL E).2.1, .int .i64 (lensL E).2.2]) ∧ Below w.heap.size w w' := by
  have c1 := refBad_any v E w hS hv hF hl
  obtain ⟨D0, hrow, hre⟩ := hv
  have hDE := forall2_len hre
  obtain ⟨n, hn⟩ : ∃ n, D0.length = n := ⟨_, rfl⟩
  obtain ⟨p, cap, rfl, hcap, hnz, hc⟩ := hrow
  rw [hn] at hcap c1 ⊢
  unfold lensL
  cases hb : (badP E).2 with
  | succ x =>
    rw [if_pos (by omega)]
    obtain ⟨z, hz⟩ : ∃ z : Int, ((x + 1 : Nat) : Int) = z := ⟨_, rfl⟩
    have hz0 : (z != 0) = true := by rw [← hz, bne_iff_ne]; omega
    obtain ⟨i1, hi1⟩ : ∃ i : Int, ((badP E).1 : Int) = i := ⟨_, rfl⟩
    simp only []
    rw [hb, hz, hi1] at c1
    rw [hz]
    clear hc hn hDE hre hnz hF hS hb hz hi1 hl
    go_enter Tryz.func92, Tryz.ntmps92
    go_wp2_with fail
    refine c1.mono ?_; rintro r w2 ⟨rfl, hb2⟩
    clear c1
    go_wp2
    go_ret3
    exact ⟨rfl, hb2⟩
  | zero =>
    rw [if_neg (by simp)]
    have hg : ∀ o ∈ E, opE o = 0 := bad_zero.1 hb
    have HC : Hid (∀ (j : Nat) (d : OV), D0[j]? = some d → ∃ b off, p = some ⟨b, off, none⟩ ∧ OpAt w b (off + j * 7) d) := hc
    have HN : Hid (D0.length = n ∧ E.length = n) := ⟨hn, by rw [← hDE, hn]⟩
    have hl : n ≤ 1048576 := by rw [← hn, hDE]; exact hl
    have HK : Hid (∀ (k : Nat) d, D0[k]? = some d → ∃ e, E[k]? = some e ∧ d.1 = e.k ∧ opE e = 0 ∧ Fit e ∧ ∀ W, Below w.heap.size w W → Calls Tryz.prog 97 #[ovV d] W fun r w' => r = .returned (.int .i64 (len5 e)) ∧ Below W.heap.size W w') := fun k d h1 => by
      obtain ⟨y, hy, r1⟩ := forall2_get hre k d h1
      have fy := hF y (List.mem_of_getElem? hy)
      have gy := hg y (List.mem_of_getElem? hy)
      refine ⟨y, hy, r1.1, gy, fy, fun W hW => ?_⟩
      rw [opV_of r1]
      exact refLenO_any y _ W gy fy
    obtain ⟨b9, r9, e9, h9⟩ : ∃ b r e, sumL 0 0 E = (b, r, e) := ⟨_, _, _, rfl⟩
    rw [h9]
    have H9 : Hid (sumL 0 0 (E.drop 0) = (b9, r9, e9)) := by show _ = _; rw [List.drop_zero]; exact h9
    obtain ⟨i1, hi1⟩ : ∃ i : Int, ((badP E).1 : Int) = i := ⟨_, rfl⟩
    rw [hb, hi1] at c1
    have hz0 : (((0 : Nat) : Int) != 0) = false := by decide
    clear hc hn hDE hre hnz hF hS hb hi1 hg h9
    go_enter Tryz.func92, Tryz.ntmps92
    go_wp2_with fail
    refine c1.mono ?_; rintro r w2 ⟨rfl, hb2⟩
    clear c1
    go_wp2
    go_loopw [7, 8, 9, 10] (fun bs rs i _ wr => ∃ (k : Nat) (b r : Int), k ≤ n ∧ i = .int .i64 k ∧ bs = .int .i64 b ∧ rs = .int .i64 r ∧ 0 ≤ b ∧ b ≤ 1099511627776 ∧ 0 ≤ r ∧ r ≤ 1099511627776 ∧ Hid (sumL b r (E.drop k) = (b9, r9, e9)) ∧ Below w.heap.size w wr) (fun _ _ i _ _ => n - (RowKit.intOf i).toNat)
    case atStart => exact ⟨0, 0, 0, Nat.zero_le _, rfl, rfl, rfl, by omega, by omega, by omega, by omega, H9, hb2⟩
    case round =>
      clear H9 hb2
      obtain ⟨k, b, r, hk, rfl, rfl, rfl, h1, h2, h3, h4, HS, hbw⟩ := hrel
      by_cases hlt : k < n
      · have hltI : (k : Int) < n := by omega
        obtain ⟨d, hd⟩ : ∃ d, D0[k]? = some d := ⟨_, List.getElem?_eq_getElem (by rw [HN.out.1]; exact hlt)⟩
        obtain ⟨e, he, hdk, hge, hfe, cc⟩ := HK.out k d hd
        obtain ⟨b0, off, rfl, hp⟩ := HC.out k d hd
        have hpw := hp.below hbw
        obtain ⟨c0, c1, c2, c3, c4, c5, c6⟩ := hpw
        have c9 := cc _ hbw
        have HP : Hid (OpAt w b0 (off + k * 7) d) := hp
        have hL := len5_range hge hfe
        have hkk := kinds_of hge
        have hdr : E.drop k = e :: E.drop (k + 1) := by
          have hlt' : k < E.length := (List.getElem?_eq_some_iff.1 he).1
          rw [List.drop_eq_getElem_cons hlt']
          congr 1
          rw [List.getElem?_eq_getElem hlt'] at he
          exact Option.some.inj he
        have HS' := HS.out
        rw [hdr, sumL] at HS'
        unfold baseO resO at HS'
        obtain ⟨L, hLL⟩ : ∃ L, len5 e = L := ⟨_, rfl⟩
        rw [hLL] at c9 hL HS'
        obtain ⟨hL1, hL2⟩ := hL
        obtain ⟨dk, dt, ⟨dx, dn, du⟩, dc, ds⟩ := d
        obtain ⟨dp, dl, dcap⟩ := ds
        simp only at hdk
        rw [← hdk] at HS' hkk
        simp only [slV] at c0 c1 c2 c3 c4 c5 c6
        simp only [ovV, ovC, slV] at c9
        clear hp hd he cc hge hfe hdr hLL hdk HS
        rcases hkk with rfl | rfl | rfl | rfl
        all_goals first
          | rw [if_neg (show ¬ ((1 : Int) = 3 ∨ (1 : Int) = 4) by omega), if_neg (show ¬ ((1 : Int) = 4) by omega)] at HS'
          | rw [if_neg (show ¬ ((2 : Int) = 3 ∨ (2 : Int) = 4) by omega), if_neg (show ¬ ((2 : Int) = 4) by omega)] at HS'
          | rw [if_pos (show ((3 : Int) = 3 ∨ (3 : Int) = 4) by omega), if_neg (show ¬ ((3 : Int) = 4) by omega)] at HS'
          | rw [if_pos (show ((4 : Int) = 3 ∨ (4 : Int) = 4) by omega), if_pos (show ((4 : Int) = 4) by omega)] at HS'
        all_goals try rw [Int.add_zero] at HS'
        · -- a text
          have d1 : decide (1099511627776 < b) = false := decide_eq_false (by omega)
          by_cases hov : 1099511627776 < r + L
          · have d2 : decide (1099511627776 < r + L) = true := decide_eq_true hov
            rw [if_pos (Or.inr hov)] at HS'
            simp only [Prod.mk.injEq] at HS'
            obtain ⟨rfl, rfl, rfl⟩ := HS'
            go_wp2_with fail
            refine c9.mono ?_; rintro r1 w5 ⟨rfl, hb5⟩
            have b5 := hbw.trans (hb5.mono hbw.size)
            have q0 := (HP.out.below b5).c0
            clear c9 hb5 c0 c1 c2 c3 c4 c5 c6
            go_wp2
            go_ret3
            exact ⟨rfl, b5⟩
          · have d2 : decide (1099511627776 < r + L) = false := decide_eq_false hov
            rw [if_neg (by omega)] at HS'
            have HS2 : Hid _ := HS'
            clear HS'
            go_wp2_with fail
            refine c9.mono ?_; rintro r1 w5 ⟨rfl, hb5⟩
            have b5 := hbw.trans (hb5.mono hbw.size)
            have q0 := (HP.out.below b5).c0
            clear c9 hb5 c0 c1 c2 c3 c4 c5 c6
            go_wp2
            go_roundw
            case rel => exact ⟨k + 1, b, r + L, by omega, by go_num, rfl, rfl, by omega, by omega, by omega, by omega, HS2, b5⟩
            case measure => simp [RowKit.intOf]; omega
        · -- an embed
          have d1 : decide (1099511627776 < b) = false := decide_eq_false (by omega)
          by_cases hov : 1099511627776 < r + L
          · have d2 : decide (1099511627776 < r + L) = true := decide_eq_true hov
            rw [if_pos (Or.inr hov)] at HS'
            simp only [Prod.mk.injEq] at HS'
            obtain ⟨rfl, rfl, rfl⟩ := HS'
            go_wp2_with fail
            refine c9.mono ?_; rintro r1 w5 ⟨rfl, hb5⟩
            have b5 := hbw.trans (hb5.mono hbw.size)
            have q0 := (HP.out.below b5).c0
            clear c9 hb5 c0 c1 c2 c3 c4 c5 c6
            go_wp2
            go_ret3
            exact ⟨rfl, b5⟩
          · have d2 : decide (1099511627776 < r + L) = false := decide_eq_false hov
            rw [if_neg (by omega)] at HS'
            have HS2 : Hid _ := HS'
            clear HS'
            go_wp2_with fail
            refine c9.mono ?_; rintro r1 w5 ⟨rfl, hb5⟩
            have b5 := hbw.trans (hb5.mono hbw.size)
            have q0 := (HP.out.below b5).c0
            clear c9 hb5 c0 c1 c2 c3 c4 c5 c6
            go_wp2
            go_roundw
            case rel => exact ⟨k + 1, b, r + L, by omega, by go_num, rfl, rfl, by omega, by omega, by omega, by omega, HS2, b5⟩
            case measure => simp [RowKit.intOf]; omega
        · -- a retain
          by_cases hov1 : 1099511627776 < b + L
          · have d1 : decide (1099511627776 < b + L) = true := decide_eq_true hov1
            rw [if_pos (Or.inl hov1)] at HS'
            simp only [Prod.mk.injEq] at HS'
            obtain ⟨rfl, rfl, rfl⟩ := HS'
            go_wp2_with fail
            refine c9.mono ?_; rintro r1 w5 ⟨rfl, hb5⟩
            have b5 := hbw.trans (hb5.mono hbw.size)
            have q0 := (HP.out.below b5).c0
            clear c9 hb5 c0 c1 c2 c3 c4 c5 c6
            go_wp2
            go_ret3
            exact ⟨rfl, b5⟩
          · have d1 : decide (1099511627776 < b + L) = false := decide_eq_false hov1
            by_cases hov : 1099511627776 < r + L
            · have d2 : decide (1099511627776 < r + L) = true := decide_eq_true hov
              rw [if_pos (Or.inr hov)] at HS'
              simp only [Prod.mk.injEq] at HS'
              obtain ⟨rfl, rfl, rfl⟩ := HS'
              go_wp2_with fail
              refine c9.mono ?_; rintro r1 w5 ⟨rfl, hb5⟩
              have b5 := hbw.trans (hb5.mono hbw.size)
              have q0 := (HP.out.below b5).c0
              clear c9 hb5 c0 c1 c2 c3 c4 c5 c6
              go_wp2
              go_ret3
              exact ⟨rfl, b5⟩
            · have d2 : decide (1099511627776 < r + L) = false := decide_eq_false hov
              rw [if_neg (by omega)] at HS'
              have HS2 : Hid _ := HS'
              clear HS'
              go_wp2_with fail
              refine c9.mono ?_; rintro r1 w5 ⟨rfl, hb5⟩
              have b5 := hbw.trans (hb5.mono hbw.size)
              have q0 := (HP.out.below b5).c0
              clear c9 hb5 c0 c1 c2 c3 c4 c5 c6
              go_wp2
              go_roundw
              case rel => exact ⟨k + 1, b + L, r + L, by omega, by go_num, rfl, rfl, by omega, by omega, by omega, by omega, HS2, b5⟩
              case measure => simp [RowKit.intOf]; omega
        · -- a delete
          have d2 : decide (1099511627776 < r) = false := decide_eq_false (by omega)
          by_cases hov : 1099511627776 < b + L
          · have d1 : decide (1099511627776 < b + L) = true := decide_eq_true hov
            rw [if_pos (Or.inl hov)] at HS'
            simp only [Prod.mk.injEq] at HS'
            obtain ⟨rfl, rfl, rfl⟩ := HS'
            go_wp2_with fail
            refine c9.mono ?_; rintro r1 w5 ⟨rfl, hb5⟩
            have b5 := hbw.trans (hb5.mono hbw.size)
            have q0 := (HP.out.below b5).c0
            clear c9 hb5 c0 c1 c2 c3 c4 c5 c6
            go_wp2
            go_ret3
            exact ⟨rfl, b5⟩
          · have d1 : decide (1099511627776 < b + L) = false := decide_eq_false hov
            rw [if_neg (by omega)] at HS'
            have HS2 : Hid _ := HS'
            clear HS'
            go_wp2_with fail
            refine c9.mono ?_; rintro r1 w5 ⟨rfl, hb5⟩
            have b5 := hbw.trans (hb5.mono hbw.size)
            have q0 := (HP.out.below b5).c0
            clear c9 hb5 c0 c1 c2 c3 c4 c5 c6
            go_wp2
            go_roundw
            case rel => exact ⟨k + 1, b + L, r, by omega, by go_num, rfl, rfl, by omega, by omega, by omega, by omega, HS2, b5⟩
            case measure => simp [RowKit.intOf]; omega
      · have hltI : ¬ (k : Int) < n := by omega
        have HS' := HS.out
        rw [List.drop_eq_nil_of_le (by rw [HN.out.2]; omega), sumL] at HS'
        simp only [Prod.mk.injEq] at HS'
        obtain ⟨rfl, rfl, rfl⟩ := HS'
        clear HS
        go_wp2
        go_ret3
        exact ⟨rfl, hbw⟩
end Go.Proofs.YtalfdjglbbmjcaaGreatDoor
