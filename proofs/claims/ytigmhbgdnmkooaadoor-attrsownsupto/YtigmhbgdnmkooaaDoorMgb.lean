/- vellumhand.OverAttrs: a list of the call's own is written over and grown: what that changes. vellumhand.Attrs: where the copy lies; what writing over a list leaves of others. What vellumref03.put answers. What vellumref03.Of answers. attrs.Of, purely: turned round, stably sorted, the firsts kept: the patch of pairs in any order. slices.rotateCmpFunc at pairs. Insertion sort of a range, purely: it is a stable sort by keys. Merging within a range, purely: runs of a row as lists, the step of a symmetric merge, one pair put to its place. The small cases of a merge, purely: one pair moved up or down to its place; what a binary search may go by. Sorting by blocks and merging them, purely. slices.symMergeCmpFunc at pairs, by their keys: one pair ahead of a sorted run. slices.insertionSortCmpFunc at pairs, by their keys. slices.symMergeCmpFunc at pairs, by their keys: one pair behind a sorted run. A symmetric merge's general step, purely: the four runs after rotating, and the whole from the two halves. slices.symMergeCmpFunc at pairs, by their keys, whole. -/
import Derived.Test.YtigmhbgdnmkooaaDoorMga
import Derived.ArgAppend
import Derived.Test.YtigmhbgdnmkooaaDoorRj
import Derived.Test.YtigmhbgdnmkooaaDoorRc
import Derived.Deep.DeepCutAuto
import Derived.Test.YtigmhbgdnmkooaaDoorMs
import Derived.Test.YtigmhbgdnmkooaaDoorSo
import Derived.Test.YtigmhbgdnmkooaaDoorSx
import Derived.Deep.RegionHeld3
import Derived.Test.YtigmhbgdnmkooaaDoorSk

/- vellumhand.OverAttrs: a list of the call's own is written over and grown: what that changes. -/
namespace Go.Proofs.YtigmhbgdnmkooaaDoor
open Go Go.RowKit Go.Lib
set_option linter.unusedVariables false

theorem cell_atv {w : World} {g : Nat} {cur : Array Value} {e : TypeId} (h : w.heap[g]? = some (.cells cur e (0, 0))) (j : Nat) (hj : j < cur.size) : ∃ u, w.cell? ⟨g, j, none⟩ = some u :=
  ⟨cur[j], by simp [World.cell?, h, hj]⟩
theorem out_set4v {lo hi : Nat} {w W : World} (h : Out lo hi w W) {g : Nat} (h1 : lo ≤ g) (h2 : g < hi) (a b c d : Nat) (u0 u1 u2 u3 : Value) :
    Out lo hi w ((((W.setCell ⟨g, a, none⟩ u0).setCell ⟨g, b, none⟩ u1).setCell ⟨g, c, none⟩ u2).setCell ⟨g, d, none⟩ u3) :=
  (((h.setCell g a u0 h1 h2).setCell g b u1 h1 h2).setCell g c u2 h1 h2).setCell g d u3 h1 h2
theorem out_setCellsv {lo hi : Nat} {w : World} {g : Nat} (h1 : lo ≤ g) (h2 : g < hi) : ∀ (vs : List Value) (o : Nat) (W : World), Out lo hi w W → Out lo hi w (W.setCells g o vs)
  | [], _, _, h => h
  | v :: r, o, W, h => by
    rw [World.setCells]
    exact out_setCellsv h1 h2 r (o + 1) _ (h.setCell g o v h1 h2)
/-- A store into a block that came later. -/
theorem Out.setFar {lo hi : Nat} {w w' : World} (h : Out lo hi w w') (g j : Nat) (u : Value) (h1 : w.heap.size ≤ g) : Out lo hi w (w'.setCell ⟨g, j, none⟩ u) :=
  ⟨h.os, h.tape, h.output, by simpa using h.size, fun k hk ho => (Below.heap_setCell _ _ _ _ (by show k ≠ g; omega)).trans (h.block k hk ho), fun k cur e fz hc hk => by
    obtain ⟨c, h3, h4⟩ := h.shape k cur e fz hc hk
    have hkg : k ≠ g := by have := (Array.getElem?_eq_some_iff.1 hc).1; omega
    exact ⟨c, (Below.heap_setCell _ _ _ _ hkg).trans h3, h4⟩⟩
theorem out_setCellsFar {lo hi : Nat} {w : World} {g : Nat} (h1 : w.heap.size ≤ g) : ∀ (vs : List Value) (o : Nat) (W : World), Out lo hi w W → Out lo hi w (W.setCells g o vs)
  | [], _, _, h => h
  | v :: r, o, W, h => by
    rw [World.setCells]
    exact out_setCellsFar h1 r (o + 1) _ (h.setFar g o v h1)
theorem out_grownv {lo hi : Nat} {u w w' : World} (h : Out lo hi u w) (g : w.grownBy w' none) : Out lo hi u w' :=
  h.trans ⟨g.os, g.tape, g.output, g.size, fun k hk _ => g.block k hk (by simp), fun k cur e fz hc _ => ⟨cur, (g.block k (Array.getElem?_eq_some_iff.1 hc).1 (by simp)).trans hc, rfl⟩⟩

/-- A list that may be written, in blocks between two marks or in new ones: its shape alone. -/
def LiR (w : World) (L H B : Nat) (v : Value) (n : Nat) : Prop :=
  (v = .slice none 0 0 ∧ n = 0) ∨ ∃ (g cap : Nat) (cur : Array Value), v = .slice (some ⟨g, 0, none⟩) n cap ∧ ((L ≤ g ∧ g < H) ∨ B ≤ g) ∧ w.heap[g]? = some (.cells cur 48 (0, 0)) ∧ n ≤ cap ∧ cur.size = cap * 4
theorem LiR.val {w : World} {L H B n : Nat} {v : Value} (h : LiR w L H B v n) : ∃ p c, v = .slice p n c := by
  rcases h with ⟨h, h0⟩ | ⟨g, cap, cur, h, _⟩
  · exact ⟨none, 0, by rw [h, h0]⟩
  · exact ⟨_, _, h⟩
theorem LiR.below {w w' : World} {L H B n : Nat} {v : Value} (h : LiR w L H B v n) (b : Below w.heap.size w w') : LiR w' L H B v n := by
  rcases h with h | ⟨g, cap, cur, h1, h2, h3, h4⟩
  · exact Or.inl h
  · exact Or.inr ⟨g, cap, cur, h1, h2, (b.block g (Array.getElem?_eq_some_iff.1 h3).1).trans h3, h4⟩
/-- append(such a list, one pair). -/
theorem wpList_append_res {w u : World} {ops : Array Oper} {rest : List Oper} {o : Oper} {a : Act} {Q : Exit → Act → World → Prop} (hgd : o.guard = none) (s x : Operand)
    (ho : o.op = .call { callee := .builtin .append, args := #[s, x], argTypes := #[22, 22] })
    (L H : Nat) (v : Value) (n : Nat) (hs : a.eval s = v) (hv : LiR w L H u.heap.size v n) (hu : Out L H u w)
    (b c : Nat) (q : A2) (hx : a.eval x = .slice (some ⟨b, 0, none⟩) 1 c) (hM : PairAt w b 0 q) (h63 : n ≤ 2097152)
    (h : ∀ v' w', LiR w' L H u.heap.size v' (n + 1) → Out L H u w' → wpList Tryd.prog ops Q rest (a.put o.dst v') w') : wpList Tryd.prog ops Q (o :: rest) a w := by
  obtain ⟨i, z, hi, hz, hz1, hz2, hz3⟩ := infoAt
  have hnew : ∀ (j : Nat) (u : Value), (cellsA [q])[j]? = some u → w.cell? ((⟨b, 0, none⟩ : Addr).add j) = some u := fun j u hu => by
    obtain ⟨k, q', hq, hh⟩ := cellsA_inv [q] j u hu
    have hk : k = 0 := by rcases k with _ | k; rfl; simp at hq
    subst hk
    obtain rfl : q = q' := by simpa using hq
    obtain ⟨h0, h1, h2, h3⟩ := hM
    rw [Addr.add_lit]
    rcases hh with ⟨rfl, rfl⟩ | ⟨rfl, rfl⟩ | ⟨rfl, rfl⟩ | ⟨rfl, rfl⟩
    · exact h0
    · exact h1
    · exact h2
    · exact h3
  have fin : ∀ (v' : Value) (w' : World) (xs : List Value), w'.ownsRow w.heap.size 48 4 v' (n + 1) xs → Out L H u w' → wpList Tryd.prog ops Q rest (a.put o.dst v') w' := fun v' w' xs hw ho' => by
    refine h _ _ ?_ ho'
    rcases hw.2 with ⟨_, h0⟩ | ⟨g, cap, cur, h1, h2, h3, h4, h5, h6, _⟩
    · omega
    · exact Or.inr ⟨g, cap, cur, h1, Or.inr (Nat.le_trans hu.size h2), h3, h4, h6⟩
  rcases hv with ⟨rfl, rfl⟩ | ⟨g, cap, cur, rfl, h2, h4, h5, h6⟩
  · exact wpList_append_grows w hgd s x _ ho 48 i z 4 48 Tryd.underlying22 hi hz hz1 hz2 hz3 (by decide) none 0 0 [] hs (fun _ => ⟨rfl, rfl⟩) rfl (fun b hb => (by cases hb)) ⟨b, 0, none⟩ 1 c (cellsA [q]) hx rfl hnew (cellsA_one _) (by decide) (by unfold maxLen; omega) (by omega) (fun v' w' r1 r2 => fin v' w' _ r1 (out_grownv hu r2))
  · refine wpList_append_arg w hgd s x _ ho 48 i z 4 48 Tryd.underlying22 hi hz hz1 hz2 hz3 (by decide) g 0 n cap (cur.toList.take (n * 4)) hs (by rw [List.length_take, Array.length_toList, h6]; omega) (fun j u hu => ?_) ⟨b, 0, none⟩ 1 c (cellsA [q]) hx rfl hnew (cellsA_one _) (fun hr j hj => ?_) (by unfold maxLen; omega) (by omega) (fun hr => ?_) (fun hr v' w' r1 r2 => fin v' w' _ r1 (out_grownv hu r2))
    · have hj := (List.getElem?_eq_some_iff.1 hu).1
      rw [List.getElem?_take] at hu
      split at hu
      · rw [Nat.zero_add]
        simp only [World.cell?, h4]
        simpa using hu
      · cases hu
    · have hj' : j < 4 := by simpa [cellsA] using hj
      rw [Nat.zero_add]
      exact ⟨by obtain ⟨u, hu⟩ := cell_atv h4 (n * 4 + j) (by omega); rw [hu]; rfl, frozen_of_row w g _ cur _ h4⟩
    · obtain ⟨cur', hc', hs'⟩ := (out_setCellsv (Nat.le_refl g) (Nat.lt_succ_self g) (cellsA [q]) (0 + n * 4) w (Out.refl g (g + 1) w)).shape g cur _ _ h4 (Nat.lt_succ_self g)
      refine h _ _ (Or.inr ⟨g, cap, cur', rfl, h2, hc', hr, by rw [hs', h6]⟩) ?_
      rcases h2 with ⟨h2, h3⟩ | h2
      · exact out_setCellsv h2 h3 _ _ _ hu
      · exact out_setCellsFar h2 _ _ _ hu

abbrev qOver (i : Int) : A2 := (⟨#[111, 118, 101, 114]⟩, 2, i, ⟨#[]⟩)
abbrev qMore : A2 := (⟨#[109, 111, 114, 101]⟩, 0, 0, ⟨#[]⟩)

set_option maxHeartbeats 2000000 in
set_option maxRecDepth 100000 in
theorem overAttrs_any (v : Value) (n L H : Nat) (w : World) (hv : LiR w L H w.heap.size v n) (hl : n ≤ 1048576) :
    Calls Tryd.prog 31 #[v] w fun r w' => r = .returned (.tuple #[]) ∧ Out L H w w' := by
  obtain ⟨p, cap, rfl⟩ := hv.val
  have HV : Hid (∀ W, Out L H w W → LiR W L H w.heap.size (.slice p n cap) n) := fun W hW => by
    rcases hv with h | ⟨g, cap', cur, h1, h2, h3, h4, h5⟩
    · exact Or.inl h
    · have hg : g < w.heap.size := (Array.getElem?_eq_some_iff.1 h3).1
      obtain ⟨cur', h6, h7⟩ := hW.shape g cur _ _ h3 (by omega)
      exact Or.inr ⟨g, cap', cur', h1, h2, h6, h4, by rw [h7, h5]⟩
  have HP : Hid (0 < n → ∃ g, p = some ⟨g, 0, none⟩ ∧ L ≤ g ∧ g < H ∧ ∀ W, Out L H w W → ∀ i, i < n * 4 → (∃ u, W.cell? ⟨g, i, none⟩ = some u) ∧ W.frozen? ⟨g, i, none⟩ = false) := fun h0 => by
    rcases hv with ⟨_, h⟩ | ⟨g, cap', cur, h1, h2, h3, h4, h5⟩
    · omega
    · have hg : g < w.heap.size := (Array.getElem?_eq_some_iff.1 h3).1
      simp only [Value.slice.injEq] at h1
      obtain ⟨rfl, -, rfl⟩ := h1
      refine ⟨g, rfl, by omega, by omega, fun W hW i hi => ?_⟩
      obtain ⟨cur', h6, h7⟩ := hW.shape g cur _ _ h3 (by omega)
      exact ⟨cell_atv h6 i (by rw [h7, h5]; omega), frozen_of_row W g i cur' _ h6⟩
  clear hv
  go_enter Tryd.func31, Tryd.ntmps31
  go_wp2
  go_loopw [2, 7] (fun _ i wr => ∃ (k : Nat), k ≤ n ∧ i = .int .i64 k ∧ Out L H w wr) (fun _ i _ => n - (RowKit.intOf i).toNat)
  case atStart => exact ⟨0, Nat.zero_le _, rfl, Out.refl _ _ _⟩
  case round =>
    obtain ⟨k, hk, rfl, ho⟩ := hrel
    by_cases hlt : k < n
    · have hltI : (k : Int) < n := by omega
      obtain ⟨g, rfl, hg1, hg2, hgc⟩ := HP.out (by omega)
      obtain ⟨⟨u0, e0⟩, f0⟩ := hgc _ ho (k * 4) (by omega)
      obtain ⟨⟨u1, e1⟩, f1⟩ := hgc _ ho (k * 4 + 1) (by omega)
      obtain ⟨⟨u2', e2⟩, f2⟩ := hgc _ ho (k * 4 + 2) (by omega)
      obtain ⟨⟨u3', e3⟩, f3⟩ := hgc _ ho (k * 4 + 3) (by omega)
      have HOO : Hid (Out L H w wr ∧ L ≤ g ∧ g < H) := ⟨ho, hg1, hg2⟩
      clear hgc ho hg1 hg2
      go_wp2_with fail
      go_roundw
      case rel => exact ⟨k + 1, by omega, by go_num, out_set4v HOO.out.1 HOO.out.2.1 HOO.out.2.2 _ _ _ _ _ _ _ _⟩
      case measure => simp [RowKit.intOf]; omega
    · have hltI : ¬ (k : Int) < n := by omega
      have hli := HV.out _ ho
      have HOO : Hid (Out L H w wr) := ho
      clear HP ho
      go_wp2_with fail
      have HL : Hid (LiR wr L H w.heap.size (.slice p n cap) n) := hli
      clear hli
      go_loopw [3, 4] (fun s i wr => ∃ (k : Nat), k ≤ 20 ∧ i = .int .i64 k ∧ Hid (Out L H w wr ∧ LiR wr L H w.heap.size s (n + k))) (fun _ i _ => 20 - (RowKit.intOf i).toNat)
      case atStart => exact ⟨0, Nat.zero_le _, rfl, HOO.out, HL.out⟩
      case round =>
        clear HOO HL
        obtain ⟨k, hk, rfl, HR⟩ := hrel
        obtain ⟨p', c', rfl⟩ := HR.out.2.val
        by_cases hlt : k < 20
        · have hltJ : (k : Int) < 20 := by omega
          have bA := (Below.refl wr.heap.size wr).alloc (Nat.le_refl _) (.cells #[.string ⟨#[109, 111, 114, 101]⟩, .int .i64 0, .int .i64 0, .string ⟨#[]⟩] 48)
          have HA : Hid (Out L H w (wr.alloc (.cells #[.string ⟨#[109, 111, 114, 101]⟩, .int .i64 0, .int .i64 0, .string ⟨#[]⟩] 48)) ∧ LiR (wr.alloc (.cells #[.string ⟨#[109, 111, 114, 101]⟩, .int .i64 0, .int .i64 0, .string ⟨#[]⟩] 48)) L H w.heap.size (.slice p' (n + k) c') (n + k)) :=
            ⟨HR.out.1.trans (Out.of_below bA), HR.out.2.below bA⟩
          have hb : n + k ≤ 2097152 := by omega
          clear HR bA
          go_wp2_with (at_builtin; refine wpList_append_res (u := w) rfl (.tmp 22) (.tmp 24) rfl L H (.slice p' (n + k) c') (n + k) rfl HA.out.2 HA.out.1 wr.heap.size 1 qMore rfl ⟨by simp, by simp, by simp, by simp⟩ hb ?_; intro v' w6 hl6 ho6; have HN : Hid (Out L H w w6 ∧ LiR w6 L H w.heap.size v' (n + (k + 1))) := ⟨ho6, hl6⟩; clear hl6 ho6 HA)
          go_roundw
          case rel => exact ⟨k + 1, by omega, by go_num, HN.out⟩
          case measure => simp [RowKit.intOf]; omega
        · have hltJ : ¬ (k : Int) < 20 := by omega
          go_wp2
          (try simp only [Exit.inBlock, Exit.then])
          refine bodyPost_end (results_none rfl _ _ _) rfl ?_
          exact ⟨rfl, HR.out.1⟩
end Go.Proofs.YtigmhbgdnmkooaaDoor

/- vellumhand.Attrs: where the copy lies; what writing over a list leaves of others. -/
namespace Go.Proofs.YtigmhbgdnmkooaaDoor
open Go Go.RowKit Go.Lib
set_option linter.unusedVariables false

/-- A copy with two more behind its end, in a block between two marks. -/
def HandO (w : World) (lo hi : Nat) (v : Value) (A : List A2) : Prop :=
  (A = [] ∧ v = .slice none 0 0) ∨ ∃ g c, A ≠ [] ∧ v = .slice (some ⟨g, 0, none⟩) A.length c ∧ g < hi ∧ OwnA w lo (.slice (some ⟨g, 0, none⟩) (A ++ [s1, s2]).length c) (A ++ [s1, s2])
/-- A row of the call's own in a block between two marks. -/
structure InA (w : World) (lo hi : Nat) (v : Value) (A : List A2) : Prop where
  own : OwnA w lo v A
  top : ∀ k, v.ownBlock = some k → k < hi
theorem InA.new {w : World} {B : Nat} {v : Value} {A : List A2} (h : OwnA w B v A) : InA w B w.heap.size v A :=
  ⟨h, fun k hk => by obtain ⟨_, cur, hc⟩ := owns_block h k hk; exact (Array.getElem?_eq_some_iff.1 hc).1⟩
theorem InA.below {w w' : World} {lo hi : Nat} {v : Value} {A : List A2} (h : InA w lo hi v A) (b : Below w.heap.size w w') : InA w' lo hi v A := ⟨owns_below h.own b, h.top⟩
theorem InA.out {w w' : World} {lo hi a b : Nat} {v : Value} {A : List A2} (h : InA w lo hi v A) (u : Out a b w w') (d : hi ≤ a ∨ b ≤ lo) : InA w' lo hi v A :=
  ⟨owns_same h.own fun k hk => by
    obtain ⟨h1, cur, h2⟩ := owns_block h.own k hk
    have := h.top k hk
    exact u.block k (Array.getElem?_eq_some_iff.1 h2).1 (by omega), h.top⟩
theorem InA.row {w : World} {lo hi : Nat} {v : Value} {A : List A2} (h : InA w lo hi v A) : RowA w v A := own_rowA h.own
theorem LiR.of_own {w : World} {lo hi B : Nat} {v : Value} {A : List A2} (h : InA w lo hi v A) : LiR w lo hi B v A.length := by
  rcases h.own.2 with h1 | ⟨g, cap, cur, h1, h2, h3, h4, h5, h6, _⟩
  · exact Or.inl h1
  · exact Or.inr ⟨g, cap, cur, h1, Or.inl ⟨h2, h.top g (by rw [h1]; rfl)⟩, h3, h4, h6⟩
theorem HandO.below {w w' : World} {lo hi : Nat} {v : Value} {A : List A2} (h : HandO w lo hi v A) (b : Below w.heap.size w w') : HandO w' lo hi v A := by
  rcases h with h | ⟨g, c, h1, h2, h3, h4⟩
  · exact Or.inl h
  · exact Or.inr ⟨g, c, h1, h2, h3, owns_below h4 b⟩
theorem HandO.out {w w' : World} {lo hi a b : Nat} {v : Value} {A : List A2} (h : HandO w lo hi v A) (u : Out a b w w') (d : hi ≤ a ∨ b ≤ lo) : HandO w' lo hi v A := by
  rcases h with h | ⟨g, c, h1, h2, h3, h4⟩
  · exact Or.inl h
  · exact Or.inr ⟨g, c, h1, h2, h3, ((InA.mk h4 (fun k hk => by simp only [Value.ownBlock, Option.some.injEq] at hk; omega) : InA w lo hi _ _).out u d).own⟩
theorem HandO.hand {w : World} {lo hi : Nat} {v : Value} {A : List A2} (h : HandO w lo hi v A) : HandA w v A := by
  rcases h with ⟨rfl, rfl⟩ | ⟨g, c, h1, rfl, h3, h4⟩
  · exact ⟨fun m c h => by simp only [Value.slice.injEq] at h; exact ⟨h.2.1.symm, h.2.2.symm⟩, RowA.nil _ _ _, fun h => absurd rfl h⟩
  · have hr := own_rowA h4
    have hl : (A ++ [s1, s2]).length = A.length + 2 := by simp
    rw [hl] at hr
    obtain ⟨p', c', e', hc', hr'⟩ := hr
    simp only [Value.slice.injEq] at e'
    obtain ⟨rfl, hL, rfl⟩ := e'
    rw [hl] at hc'
    refine ⟨fun m c h => by simp at h, ⟨_, _, rfl, by omega, fun j x hx => hr' j x (by rw [List.getElem?_append_left (List.getElem?_eq_some_iff.1 hx).1]; exact hx)⟩, fun _ => ⟨_, _, rfl, hc', ⟨_, _, by rw [hl], by rw [hl]; exact hc', hr'⟩⟩⟩
theorem HandO.li {w : World} {lo hi B : Nat} {v : Value} {A : List A2} (h : HandO w lo hi v A) : LiR w lo hi B v A.length := by
  rcases h with ⟨rfl, rfl⟩ | ⟨g, c, h1, rfl, h3, h4⟩
  · exact Or.inl ⟨rfl, rfl⟩
  · rcases h4.2 with ⟨_, h5⟩ | ⟨g', cap, cur, h5, h6, h7, h8, h9, h10, _⟩
    · simp at h5
    · simp only [Value.slice.injEq, Option.some.injEq, Addr.mk.injEq, and_true, true_and] at h5
      obtain ⟨rfl, -, rfl⟩ := h5
      exact Or.inr ⟨g, c, cur, rfl, Or.inl ⟨h6, h3⟩, h7, by simp at h8; omega, h10⟩
set_option maxHeartbeats 2000000 in
set_option maxRecDepth 100000 in
theorem hattrs_own (v : Value) (A : List A2) (w : World) (hA : RowA w v A) (hl : A.length ≤ 1048576) :
    Calls Tryd.prog 7 #[v] w fun r w' => ∃ v', r = .returned v' ∧ HandO w' w.heap.size w'.heap.size v' A ∧ Below w.heap.size w w' := by
  obtain ⟨n, hn⟩ : ∃ n, A.length = n := ⟨_, rfl⟩
  obtain ⟨p, cap, rfl, hcap, hc⟩ := hA
  rw [hn] at hl hcap ⊢
  have HN : Hid (A.length = n) := hn
  have HC : Hid _ := hc
  clear hc hn
  by_cases h0 : n = 0
  · subst h0
    obtain rfl : A = [] := List.eq_nil_of_length_eq_zero HN.out
    go_enter Tryd.func7, Tryd.ntmps7
    go_wp2
    go_ret
    exact ⟨.slice none 0 0, rfl, Or.inl ⟨rfl, rfl⟩, Below.refl _ _⟩
  · have h0I : ((n : Int) == 0) = false := by simp; omega
    obtain ⟨q, hq⟩ : ∃ q, A[0]? = some q := ⟨_, List.getElem?_eq_getElem (by rw [HN.out]; omega)⟩
    obtain ⟨b, off, rfl, _⟩ := HC.out 0 q hq
    have hne : A ≠ [] := fun e => by have := HN.out; rw [e] at this; exact h0 this.symm
    have HE : Hid (A ≠ []) := hne
    clear hq hne h0
    have oE := own_empty' w w.heap.size (Nat.le_refl _)
    have bE := (Below.refl w.heap.size w).alloc (Nat.le_refl _) (.cells #[] 48)
    have hM : Hid (∀ (j : Nat) (x : A2), A[j]? = some x → PairAt (w.alloc (.cells #[] 48)) b (off + j * 4) x) := fun j x hx => by
      obtain ⟨b', off', he, h⟩ := HC.out j x hx
      cases he
      exact h.below bE
    have hL0 : ([] : List A2).length + n ≤ 2097152 := by simp; omega
    go_enter Tryd.func7, Tryd.ntmps7
    go_wp2_with (first
      | (at_builtin; refine wpList_append_atx rfl (.tmp 7) (.tmp 8) rfl w.heap.size (.slice (some ⟨w.heap.size, 0, none⟩) 0 0) [] rfl oE b off n cap A rfl HN.out hM.out hL0 bE.size ?_; intro v9 w9 own9 gr9 hat9; have b10 := (bE.grown gr9 bE.size (fun j hj => by simp only [Value.ownBlock, Option.some.injEq] at hj; omega)).alloc (by have h0 := gr9.size; have h1 := bE.size; omega) (.cells #[.string ⟨#[115, 112, 97, 114, 101]⟩, .int .i64 0, .int .i64 0, .string ⟨#[]⟩, .string ⟨#[114, 111, 111, 109]⟩, .int .i64 0, .int .i64 0, .string ⟨#[]⟩] 48); have O9 : Hid (OwnA w9 w.heap.size v9 A) := own9; have O10 : Hid (OwnA (w9.alloc (.cells #[.string ⟨#[115, 112, 97, 114, 101]⟩, .int .i64 0, .int .i64 0, .string ⟨#[]⟩, .string ⟨#[114, 111, 111, 109]⟩, .int .i64 0, .int .i64 0, .string ⟨#[]⟩] 48)) w.heap.size v9 A) := owns_below O9.out ((Below.refl _ _).alloc (Nat.le_refl _) _); have hL1 : Hid (A.length + 2 ≤ 2097152) := (by show _ ≤ _; rw [HN.out]; omega); have hge : Hid (∀ j, v9.ownBlock = some j → w.heap.size ≤ j) := (fun j hj => (owns_block O10.out j hj).1); clear own9 gr9 hat9 oE bE hM O9)
      | (at_builtin; refine wpList_append_atx rfl (.tmp 9) (.tmp 12) rfl w.heap.size v9 A rfl O10.out w9.heap.size 0 2 2 [s1, s2] rfl rfl (two_at ⟨by simp, by simp, by simp, by simp⟩ ⟨by simp, by simp, by simp, by simp⟩) hL1.out b10.size ?_; intro v11 w11 own11 gr11 hat11; have b11 := b10.grown gr11 b10.size (fun j hj => hge.out j hj); obtain ⟨p11, c11, e11, hc11, hr11⟩ := own_rowA own11; rw [show (A ++ [s1, s2]).length = n + 2 by simp [HN.out]] at e11 hc11; subst e11; have HR : Hid (OwnA w11 w.heap.size (.slice p11 (n + 2) c11) (A ++ [s1, s2])) := own11; have hcI : n ≤ c11 := (by omega); clear own11 gr11 hat11 O10 b10 hge hr11))
    go_ret
    have ho := HR.out
    rcases HR.out.2 with ⟨h1, _⟩ | ⟨g, cap, cur, h1, h2, h3, h4, h5, h6, h7⟩
    · simp at h1
    · simp only [Value.slice.injEq] at h1
      obtain ⟨rfl, -, rfl⟩ := h1
      exact ⟨_, rfl, Or.inr ⟨g, c11, HE.out, by rw [HN.out]; rfl, (Array.getElem?_eq_some_iff.1 h3).1, by rw [show (A ++ [s1, s2]).length = n + 2 by simp [HN.out]]; exact ho⟩, b11⟩
end Go.Proofs.YtigmhbgdnmkooaaDoor

/- What vellumref03.put answers. -/
namespace Go.Proofs.YtigmhbgdnmkooaaDoor
open Go Go.RowKit Go.Lib
set_option linter.unusedVariables false

/-- A list with a key's value put in its place. -/
def putF (q : A2) : Bool → List A2 → List A2
  | done, [] => if done then [] else [q]
  | done, x :: r => (if !done && !decide (kc x.1 q.1 < 0) then [q] else []) ++ ((if x.1 = q.1 then [] else [x]) ++ putF q (done || !decide (kc x.1 q.1 < 0)) r)

set_option maxHeartbeats 8000000 in
set_option maxRecDepth 100000 in
theorem put_any (v : Value) (L : List A2) (q : A2) (w : World) (hv : RowA w v L) (hl : L.length ≤ 100000) :
    Calls Tryd.prog 44 #[v, atV q] w fun r w' => ∃ v', r = .returned v' ∧ OwnA w' w.heap.size v' (putF q false L) ∧ Below w.heap.size w w' := by
  obtain ⟨n, hn⟩ : ∃ n, L.length = n := ⟨_, rfl⟩
  obtain ⟨W0, hW0⟩ : ∃ W0, W0 = w.alloc (.cells #[.string q.1, .int .i64 q.2.1, .int .i64 q.2.2.1, .string q.2.2.2] 48) := ⟨_, rfl⟩
  have b0 : Below w.heap.size w W0 := by rw [hW0]; exact (Below.refl _ _).alloc (Nat.le_refl _) _
  have pQ : PairAt W0 w.heap.size 0 q := by rw [hW0]; exact ⟨by simp, by simp, by simp, by simp⟩
  obtain ⟨p, cap, rfl, hcap, hc⟩ := hv.below b0
  rw [hn] at hl hcap
  rw [show (Value.slice p L.length cap) = .slice p n cap by rw [hn]]
  have HN : Hid (L.length = n) := hn
  have HC : Hid _ := hc
  clear hc hn hv
  obtain ⟨qk, qx, qn, qt⟩ := q
  obtain ⟨PF, hPF⟩ : ∃ PF, putF (qk, qx, qn, qt) = PF := ⟨_, rfl⟩
  have oE := own_empty' W0 W0.heap.size (Nat.le_refl _)
  have bE := (Below.refl W0.heap.size W0).alloc (Nat.le_refl _) (.cells #[] 48)
  have HP : Hid (PairAt W0 w.heap.size 0 (qk, qx, qn, qt)) := pQ
  have HW : Hid (Below w.heap.size w W0) := b0
  simp only at hW0
  clear pQ b0
  go_enter Tryd.func44, Tryd.ntmps44
  go_wp2_with fail
  rw [← hW0]
  rw [show w.heap.size + 1 = W0.heap.size by rw [hW0]; simp]
  clear hW0
  obtain ⟨E, hE⟩ : ∃ E, w.heap.size = E := ⟨_, rfl⟩
  have HPF : Hid (putF (qk, qx, qn, qt) = PF) := hPF
  rw [hE] at HP ⊢
  obtain ⟨v0, hv0⟩ : ∃ v0 : Value, v0 = .slice (some ⟨W0.heap.size, 0, none⟩) 0 0 := ⟨_, rfl⟩
  rw [← hv0] at oE ⊢
  have HP0 : Hid (∀ D x r, PF D (x :: r) = (if !D && !decide (kc x.1 qk < 0) then [(qk, qx, qn, qt)] else []) ++ ((if x.1 = qk then [] else [x]) ++ PF (D || !decide (kc x.1 qk < 0)) r)) := fun D x r => by rw [← hPF, putF]
  have HP1 : Hid (∀ D, PF D [] = if D then [] else [(qk, qx, qn, qt)]) := fun D => by rw [← hPF, putF]
  clear hv0 hPF hE
  go_loopw [5, 6, 12] (fun out dn i wr => ∃ (k : Nat) (D : Bool) (O : List A2), k ≤ n ∧ i = .int .i64 k ∧ dn = .bool D ∧ OwnA wr W0.heap.size out O ∧ Below W0.heap.size W0 wr ∧ Hid (PF false L = O ++ PF D (L.drop k) ∧ O.length ≤ 2 * k)) (fun _ _ i _ => n - (RowKit.intOf i).toNat)
  case atStart => exact ⟨0, false, [], Nat.zero_le _, rfl, rfl, oE, bE, by simp, by simp⟩
  case round =>
    obtain ⟨k, D, O, hk, rfl, rfl, own, bw, H⟩ := hrel
    clear oE bE
    by_cases hlt : k < n
    · have hltI : (k : Int) < n := by omega
      obtain ⟨x, hx⟩ : ∃ q, L[k]? = some q := ⟨_, List.getElem?_eq_getElem (by rw [HN.out]; exact hlt)⟩
      obtain ⟨b, off, rfl, hp⟩ := HC.out k x hx
      obtain ⟨c0, c1, c2, c3⟩ := hp.below bw
      have HD : Hid (L.drop k = x :: L.drop (k + 1)) := drop_cons HN.out hlt hx
      obtain ⟨xk, xx, xn, xt⟩ := x
      simp only at c0 c1 c2 c3
      clear hp hx
      have hLn : Hid (O.length + 2 ≤ 2097152) := by show _ ≤ _; have := H.out.2; omega
      have H1 : Hid (PF false L = O ++ ((if !D && !decide (kc xk qk < 0) then [(qk, qx, qn, qt)] else []) ++ ((if xk = qk then [] else [(xk, xx, xn, xt)]) ++ PF (D || !decide (kc xk qk < 0)) (L.drop (k + 1)))) ∧ O.length ≤ 2 * k) := ⟨by rw [H.out.1, HD.out, HP0.out], H.out.2⟩
      have HO : Hid (OwnA wr W0.heap.size u5 O) := own
      clear H own
      go_upto_region 6 with fail
      obtain ⟨W3, hW3⟩ : ∃ W, W = wr.alloc (.cells #[.string xk, .int .i64 xx, .int .i64 xn, .string xt] 48) := ⟨_, rfl⟩
      have b3 : Below W0.heap.size W0 W3 := by rw [hW3]; exact bw.alloc bw.size _
      have pG : PairAt W3 wr.heap.size 0 (xk, xx, xn, xt) := by rw [hW3]; exact ⟨by simp, by simp, by simp, by simp⟩
      have O3 : Hid (OwnA W3 W0.heap.size u5 O) := by rw [hW3]; exact owns_below HO.out ((Below.refl _ _).alloc (Nat.le_refl _) _)
      have offG : Hid (∀ g, u5.ownBlock = some g → g ≠ wr.heap.size) := fun g hg => by
        obtain ⟨_, cur, hc⟩ := owns_block HO.out g hg
        have := (Array.getElem?_eq_some_iff.1 hc).1
        omega
      obtain ⟨G, hG⟩ : ∃ G, wr.heap.size = G := ⟨_, rfl⟩
      rw [hG] at pG offG ⊢
      rw [← hW3]
      clear hW3 hG HO c0 c1 c2 c3 bw
      have pE := HP.out.below b3
      obtain ⟨e0, e1, e2, e3⟩ := pE
      obtain ⟨d0, d1, d2, d3⟩ := pG
      rw [Nat.zero_add] at e1 e2 e3 d1 d2 d3
      simp only at e0 e1 e2 e3 d0 d1 d2 d3
      have PG : Hid (PairAt W3 G 0 (xk, xx, xn, xt)) := ⟨d0, by rw [Nat.zero_add]; exact d1, by rw [Nat.zero_add]; exact d2, by rw [Nat.zero_add]; exact d3⟩
      cases D with
      | true =>
        by_cases heq : xk = qk
        · have q2 := beq_key (x := xk) (y := qk) true (decide_eq_true heq)
          have HH : Hid (PF false L = O ++ PF true (L.drop (k + 1)) ∧ O.length ≤ 2 * (k + 1)) := ⟨by rw [H1.out.1]; simp [heq], by have := H1.out.2; omega⟩
          clear H1 heq
          go_wp2_with fail
          go_roundw
          case rel => exact ⟨k + 1, true, O, by omega, by go_num, rfl, O3.out, b3, HH.out⟩
          case measure => simp [RowKit.intOf]; omega
        · have q2 := beq_key (x := xk) (y := qk) false (decide_eq_false heq)
          have HH : Hid (PF false L = (O ++ [(xk, xx, xn, xt)]) ++ PF true (L.drop (k + 1)) ∧ (O ++ [(xk, xx, xn, xt)]).length ≤ 2 * (k + 1)) := ⟨by rw [H1.out.1]; simp [heq], by have := H1.out.2; simp; omega⟩
          clear H1 heq
          have o5 := owns_below O3.out ((Below.refl W3.heap.size W3).alloc (Nat.le_refl _) (.cells #[.string xk, .int .i64 xx, .int .i64 xn, .string xt] 48))
          have b5 := b3.alloc b3.size (.cells #[.string xk, .int .i64 xx, .int .i64 xn, .string xt] 48)
          have g5 : Hid (∀ j, u5.ownBlock = some j → W0.heap.size ≤ j) := fun j hj => (owns_block o5 j hj).1
          go_wp2_with (at_builtin; refine wpList_append_atx rfl (.tmp 34) (.tmp 36) rfl W0.heap.size u5 O rfl o5 W3.heap.size 0 1 1 [(xk, xx, xn, xt)] rfl rfl (one_at ⟨by simp, by simp, by simp, by simp⟩) (by have := hLn.out; simp; omega) b5.size ?_; intro v6 w6 own5 gr5 hat5)
          have B5 := b5.grown gr5 b5.size (fun j hj => g5.out j hj)
          go_roundw
          case rel => exact ⟨k + 1, true, _, by omega, by go_num, rfl, own5, B5, HH.out⟩
          case measure => simp [RowKit.intOf]; omega
      | false =>
        by_cases hlt2 : kc xk qk < 0
        · have q1 := fun t => geq_run (P := Tryd.prog) (t := t) xk qk false (by rw [decide_eq_true hlt2]; rfl)
          have hne : ¬ xk = qk := fun e => by rw [e, kc_self] at hlt2; omega
          have q2 := beq_key (x := xk) (y := qk) false (decide_eq_false hne)
          have HH : Hid (PF false L = (O ++ [(xk, xx, xn, xt)]) ++ PF false (L.drop (k + 1)) ∧ (O ++ [(xk, xx, xn, xt)]).length ≤ 2 * (k + 1)) := ⟨by rw [H1.out.1]; simp [hne, hlt2], by have := H1.out.2; simp; omega⟩
          clear H1 hne hlt2
          have o5 := owns_below O3.out ((Below.refl W3.heap.size W3).alloc (Nat.le_refl _) (.cells #[.string xk, .int .i64 xx, .int .i64 xn, .string xt] 48))
          have b5 := b3.alloc b3.size (.cells #[.string xk, .int .i64 xx, .int .i64 xn, .string xt] 48)
          have g5 : Hid (∀ j, u5.ownBlock = some j → W0.heap.size ≤ j) := fun j hj => (owns_block o5 j hj).1
          go_wp2_with (at_builtin; refine wpList_append_atx rfl (.tmp 34) (.tmp 36) rfl W0.heap.size u5 O rfl o5 W3.heap.size 0 1 1 [(xk, xx, xn, xt)] rfl rfl (one_at ⟨by simp, by simp, by simp, by simp⟩) (by have := hLn.out; simp; omega) b5.size ?_; intro v6 w6 own5 gr5 hat5)
          have B5 := b5.grown gr5 b5.size (fun j hj => g5.out j hj)
          go_roundw
          case rel => exact ⟨k + 1, false, _, by omega, by go_num, rfl, own5, B5, HH.out⟩
          case measure => simp [RowKit.intOf]; omega
        · have q1 := fun t => geq_run (P := Tryd.prog) (t := t) xk qk true (by rw [decide_eq_false hlt2]; rfl)
          have H2 : Hid (PF false L = (O ++ [(qk, qx, qn, qt)]) ++ ((if xk = qk then [] else [(xk, xx, xn, xt)]) ++ PF true (L.drop (k + 1))) ∧ (O ++ [(qk, qx, qn, qt)]).length ≤ 2 * k + 1) := ⟨by rw [H1.out.1]; simp [hlt2], by have := H1.out.2; simp; omega⟩
          clear H1 hlt2
          have hPW : Hid (Below W0.heap.size W0 W3) := b3
          have o5 := owns_below O3.out ((Below.refl W3.heap.size W3).alloc (Nat.le_refl _) (.cells #[.string qk, .int .i64 qx, .int .i64 qn, .string qt] 48))
          have b5 := b3.alloc b3.size (.cells #[.string qk, .int .i64 qx, .int .i64 qn, .string qt] 48)
          have g5 : Hid (∀ j, u5.ownBlock = some j → W0.heap.size ≤ j) := fun j hj => (owns_block o5 j hj).1
          by_cases heq : xk = qk
          · have q2 := beq_key (x := xk) (y := qk) true (decide_eq_true heq)
            have HH : Hid (PF false L = (O ++ [(qk, qx, qn, qt)]) ++ PF true (L.drop (k + 1)) ∧ (O ++ [(qk, qx, qn, qt)]).length ≤ 2 * (k + 1)) := ⟨by rw [H2.out.1]; simp [heq], by have := H2.out.2; omega⟩
            clear H2 heq
            go_wp2_with (at_builtin; refine wpList_append_atx rfl (.tmp 25) (.tmp 27) rfl W0.heap.size u5 O rfl o5 W3.heap.size 0 1 1 [(qk, qx, qn, qt)] rfl rfl (one_at ⟨by simp, by simp, by simp, by simp⟩) (by have := hLn.out; simp; omega) b5.size ?_; intro v6 w6 own5 gr5 hat5; have B5 := b5.grown gr5 b5.size (fun j hj => g5.out j hj); have pG6 := PairAt.grown (PG.out.below ((Below.refl W3.heap.size W3).alloc (Nat.le_refl _) (.cells #[.string qk, .int .i64 qx, .int .i64 qn, .string qt] 48))) gr5 (fun e => offG.out G e.symm rfl); have pE6 := HP.out.below B5; have O6 : Hid (OwnA w6 W0.heap.size v6 (O ++ [(qk, qx, qn, qt)])) := own5; clear e0 e1 e2 e3 d0 d1 d2 d3; obtain ⟨e0, e1, e2, e3⟩ := pE6; obtain ⟨d0, d1, d2, d3⟩ := pG6; rw [Nat.zero_add] at e1 e2 e3 d1 d2 d3; simp only at e0 e1 e2 e3 d0 d1 d2 d3; clear own5 gr5 hat5 o5 b5 g5)
            go_roundw
            case rel => exact ⟨k + 1, true, _, by omega, by go_num, rfl, O6.out, B5, HH.out⟩
            case measure => simp [RowKit.intOf]; omega
          · have q2 := beq_key (x := xk) (y := qk) false (decide_eq_false heq)
            have HH : Hid (PF false L = ((O ++ [(qk, qx, qn, qt)]) ++ [(xk, xx, xn, xt)]) ++ PF true (L.drop (k + 1)) ∧ ((O ++ [(qk, qx, qn, qt)]) ++ [(xk, xx, xn, xt)]).length ≤ 2 * (k + 1)) := ⟨by rw [H2.out.1]; simp [heq], by have := H2.out.2; rw [List.length_append]; simp only [List.length_singleton]; omega⟩
            clear H2 heq
            go_wp2_with (first | (at_builtin; refine wpList_append_atx rfl (.tmp 25) (.tmp 27) rfl W0.heap.size u5 O rfl o5 W3.heap.size 0 1 1 [(qk, qx, qn, qt)] rfl rfl (one_at ⟨by simp, by simp, by simp, by simp⟩) (by have := hLn.out; simp; omega) b5.size ?_; intro v6 w6 own5 gr5 hat5; have B5 := b5.grown gr5 b5.size (fun j hj => g5.out j hj); have pG6 := PairAt.grown (PG.out.below ((Below.refl W3.heap.size W3).alloc (Nat.le_refl _) (.cells #[.string qk, .int .i64 qx, .int .i64 qn, .string qt] 48))) gr5 (fun e => offG.out G e.symm rfl); have pE6 := HP.out.below B5; have O6 : Hid (OwnA w6 W0.heap.size v6 (O ++ [(qk, qx, qn, qt)])) := own5; clear e0 e1 e2 e3 d0 d1 d2 d3; obtain ⟨e0, e1, e2, e3⟩ := pE6; obtain ⟨d0, d1, d2, d3⟩ := pG6; rw [Nat.zero_add] at e1 e2 e3 d1 d2 d3; simp only at e0 e1 e2 e3 d0 d1 d2 d3; clear own5 gr5 hat5 o5 b5 g5; have o7 := owns_below O6.out ((Below.refl w6.heap.size w6).alloc (Nat.le_refl _) (.cells #[.string xk, .int .i64 xx, .int .i64 xn, .string xt] 48)); have b7 := B5.alloc B5.size (.cells #[.string xk, .int .i64 xx, .int .i64 xn, .string xt] 48); have g7 : Hid (∀ j, v6.ownBlock = some j → W0.heap.size ≤ j) := (fun j hj => (owns_block o7 j hj).1)) | (at_builtin; refine wpList_append_atx rfl (.tmp 34) (.tmp 36) rfl W0.heap.size v6 (O ++ [(qk, qx, qn, qt)]) rfl o7 w6.heap.size 0 1 1 [(xk, xx, xn, xt)] rfl rfl (one_at ⟨by simp, by simp, by simp, by simp⟩) (by have := hLn.out; simp; omega) b7.size ?_; intro v8 w8 own7 gr7 hat7; have B7 := b7.grown gr7 b7.size (fun j hj => g7.out j hj)))
            go_roundw
            case rel => exact ⟨k + 1, true, _, by omega, by go_num, rfl, own7, B7, HH.out⟩
            case measure => simp [RowKit.intOf]; omega
    · have hltI : ¬ (k : Int) < n := by omega
      have HO : Hid (OwnA wr W0.heap.size u5 O) := own
      have H1 : Hid (PF false L = O ++ PF D [] ∧ O.length ≤ 2 * k) := ⟨by rw [H.out.1, List.drop_of_length_le (by rw [HN.out]; omega)], H.out.2⟩
      clear own H
      cases D with
      | true =>
        go_wp2
        go_ret
        have he : putF (qk, qx, qn, qt) false L = O := by rw [HPF.out, H1.out.1, HP1.out]; simp
        exact ⟨u5, rfl, by rw [he]; exact own_weaken HO.out HW.out.size, HW.out.trans (bw.mono HW.out.size)⟩
      | false =>
        have hLn : Hid (O.length + 2 ≤ 2097152) := by show _ ≤ _; have := H1.out.2; omega
        have pE := HP.out.below bw
        obtain ⟨e0, e1, e2, e3⟩ := pE
        rw [Nat.zero_add] at e1 e2 e3
        simp only at e0 e1 e2 e3
        have o5 := owns_below HO.out ((Below.refl wr.heap.size wr).alloc (Nat.le_refl _) (.cells #[.string qk, .int .i64 qx, .int .i64 qn, .string qt] 48))
        have b5 := bw.alloc bw.size (.cells #[.string qk, .int .i64 qx, .int .i64 qn, .string qt] 48)
        have g5 : Hid (∀ j, u5.ownBlock = some j → W0.heap.size ≤ j) := fun j hj => (owns_block o5 j hj).1
        go_wp2_with (at_builtin; refine wpList_append_atx rfl (.tmp 41) (.tmp 43) rfl W0.heap.size u5 O rfl o5 wr.heap.size 0 1 1 [(qk, qx, qn, qt)] rfl rfl (one_at ⟨by simp, by simp, by simp, by simp⟩) (by have := hLn.out; simp; omega) b5.size ?_; intro v6 w6 own5 gr5 hat5; have B5 := b5.grown gr5 b5.size (fun j hj => g5.out j hj); have O6 : Hid (OwnA w6 W0.heap.size v6 (O ++ [(qk, qx, qn, qt)])) := own5; clear own5)
        go_ret
        have he : putF (qk, qx, qn, qt) false L = O ++ [(qk, qx, qn, qt)] := by rw [HPF.out, H1.out.1, HP1.out]; simp
        exact ⟨v6, rfl, by rw [he]; exact own_weaken O6.out HW.out.size, HW.out.trans (B5.mono HW.out.size)⟩
end Go.Proofs.YtigmhbgdnmkooaaDoor

/- What vellumref03.Of answers. -/
namespace Go.Proofs.YtigmhbgdnmkooaaDoor
open Go Go.RowKit Go.Lib
set_option linter.unusedVariables false

def ofE : List A2 → Nat
  | [] => 0
  | q :: r => if pairE q = 0 then ofE r else pairE q
def ofL (L : List A2) : List A2 := L.foldl (fun o q => putF q false o) []
theorem putF_len (q : A2) : ∀ (D : Bool) (L : List A2), (putF q D L).length ≤ L.length + (if D then 0 else 1)
  | D, [] => by cases D <;> simp [putF]
  | D, x :: r => by
    have ih := putF_len q (D || !decide (kc x.1 q.1 < 0)) r
    rw [putF]
    simp only [List.length_append, List.length_cons]
    have h1 : (if x.1 = q.1 then [] else [x] : List A2).length ≤ 1 := by split <;> simp
    cases D with
    | true => simp at ih ⊢; omega
    | false =>
      cases hd : decide (kc x.1 q.1 < 0) with
      | true => simp [hd] at ih ⊢; omega
      | false => simp [hd] at ih ⊢; omega
theorem ofL_len : ∀ (L : List A2) (O : List A2), (L.foldl (fun o q => putF q false o) O).length ≤ O.length + L.length
  | [], O => by simp
  | q :: r, O => by
    have h1 := ofL_len r (putF q false O)
    have h2 := putF_len q false O
    simp only [List.foldl_cons, List.length_cons]
    simp at h2
    omega
theorem ofL_step {L : List A2} {k : Nat} {q : A2} (hq : L[k]? = some q) : ofL (L.take (k + 1)) = putF q false (ofL (L.take k)) := by
  unfold ofL
  rw [List.take_add_one, hq, List.foldl_append]
  rfl

set_option maxHeartbeats 4000000 in
set_option maxRecDepth 100000 in
theorem refOf_any {I : List Nat} {a : Nat → Addr} (v : Value) (L : List A2) (w : World) (hS : Std I a w) (hv : RowA w v L) (hs : Tiny L) (hl : L.length ≤ 100000) :
    Calls Tryd.prog 12 #[v] w fun r w' => ∃ v', r = .returned (.tuple #[v', .int .i64 (ofE L)]) ∧ RowA w' v' (if ofE L = 0 then ofL L else []) ∧ Below w.heap.size w w' := by
  obtain ⟨n, hn⟩ : ∃ n, L.length = n := ⟨_, rfl⟩
  obtain ⟨p, cap, rfl, hcap, hc⟩ := hv
  rw [hn] at hl hcap ⊢
  have HN : Hid (L.length = n) := hn
  have HC : Hid _ := hc
  have HS : Hid (Std I a w) := hS
  have HZ : Hid (Tiny L) := hs
  obtain ⟨EE, hEE⟩ : ∃ EE, ofE L = EE := ⟨_, rfl⟩
  obtain ⟨RL, hRL⟩ : ∃ RL, (if ofE L = 0 then ofL L else []) = RL := ⟨_, rfl⟩
  have HR : Hid (ofE L = EE ∧ (if ofE L = 0 then ofL L else []) = RL) := ⟨hEE, hRL⟩
  rw [hRL, hEE]
  clear hc hS hs hn hRL hEE
  go_enter Tryd.func12, Tryd.ntmps12
  go_wp2
  go_loopw [12] (fun i wr => ∃ (k : Nat), k ≤ n ∧ i = .int .i64 k ∧ Below w.heap.size w wr ∧ Hid (ofE L = ofE (L.drop k))) (fun i _ => n - (RowKit.intOf i).toNat)
  case atStart => exact ⟨0, Nat.zero_le _, rfl, Below.refl _ _, by show _ = _; rw [List.drop_zero]⟩
  case round =>
    obtain ⟨k, hk, rfl, bw, H⟩ := hrel
    by_cases hlt : k < n
    · have hltI : (k : Int) < n := by omega
      obtain ⟨q, hq⟩ : ∃ q, L[k]? = some q := ⟨_, List.getElem?_eq_getElem (by rw [HN.out]; exact hlt)⟩
      obtain ⟨b, off, rfl, hp⟩ := HC.out k q hq
      obtain ⟨c0, c1, c2, c3⟩ := hp.below bw
      have hzs := HZ.out _ (List.mem_of_getElem? hq)
      have HD : Hid (L.drop k = q :: L.drop (k + 1)) := drop_cons HN.out hlt hq
      obtain ⟨qk, qx, qn, qt⟩ := q
      simp only at c0 c1 c2 c3 hzs
      have hb1 : Below w.heap.size w (wr.alloc (.cells #[.string qk, .int .i64 qx, .int .i64 qn, .string qt] 48)) := bw.alloc bw.size _
      have cP := ref_pair (qk, qx, qn, qt) _ (HS.out.below hb1) hzs.1 hzs.2
      have H1 : Hid (ofE L = if pairE (qk, qx, qn, qt) = 0 then ofE (L.drop (k + 1)) else pairE (qk, qx, qn, qt)) := by
        show _ = _
        rw [H.out, HD.out, ofE]
      obtain ⟨PE, hPE⟩ : ∃ PE, pairE (qk, qx, qn, qt) = PE := ⟨_, rfl⟩
      rw [hPE] at cP H1
      clear hzs hq hPE H hp
      go_wp2_with fail
      refine cP.mono ?_; rintro r w3 ⟨rfl, hb3⟩
      have hb4 := hb1.trans (hb3.mono hb1.size)
      clear cP hb3 hb1 c0 c1 c2 c3
      by_cases hE : PE = 0
      · have H2 : Hid (ofE L = ofE (L.drop (k + 1))) := by show _ = _; rw [H1.out, if_pos hE]
        have hx : ((PE : Int) != 0) = false := by rw [hE]; rfl
        clear H1 hE
        go_wp2
        go_roundw
        case rel => exact ⟨k + 1, by omega, by go_num, hb4, H2.out⟩
        case measure => simp [RowKit.intOf]; omega
      · have H2 : Hid (ofE L = PE ∧ PE ≠ 0) := ⟨by rw [H1.out, if_neg hE], hE⟩
        have hx : ((PE : Int) != 0) = true := by simp; omega
        clear H1 hE
        go_wp2
        go_ret2
        have h1 : EE = PE := by rw [← HR.out.1, H2.out.1]
        have h2 : RL = [] := by rw [← HR.out.2, if_neg (by rw [H2.out.1]; exact H2.out.2)]
        subst h1; subst h2
        exact ⟨.slice none 0 0, rfl, RowA.nil _ none 0, hb4⟩
    · have hltI : ¬ (k : Int) < n := by omega
      have H1 : Hid (ofE L = 0) := by
        show _ = _
        rw [H.out, List.drop_of_length_le (by rw [HN.out]; omega), ofE]
      clear H hlt
      go_wp2_with fail
      have rE : RowA (wr.alloc (.cells #[] 48)) (.slice (some ⟨wr.heap.size, 0, none⟩) 0 0) (ofL (L.take 0)) := RowA.nil _ _ _
      have bE := bw.alloc bw.size (.cells #[] 48)
      obtain ⟨v0, hv0⟩ : ∃ v0 : Value, v0 = .slice (some ⟨wr.heap.size, 0, none⟩) 0 0 := ⟨_, rfl⟩
      rw [← hv0] at rE ⊢
      obtain ⟨wE, hwE⟩ : ∃ W, W = wr.alloc (.cells #[] 48) := ⟨_, rfl⟩
      rw [← hwE] at rE bE ⊢
      clear hv0 hwE bw hk hltI
      go_loopw [7, 25] (fun out i wt => ∃ (k : Nat), k ≤ n ∧ i = .int .i64 k ∧ Below w.heap.size w wt ∧ Hid (RowA wt out (ofL (L.take k)))) (fun _ i _ => n - (RowKit.intOf i).toNat)
      case atStart => exact ⟨0, Nat.zero_le _, rfl, bE, rE⟩
      case round =>
        clear bE rE
        obtain ⟨k, hk, rfl, bw, H⟩ := hrel
        by_cases hlt : k < n
        · have hltI : (k : Int) < n := by omega
          obtain ⟨q, hq⟩ : ∃ q, L[k]? = some q := ⟨_, List.getElem?_eq_getElem (by rw [HN.out]; exact hlt)⟩
          obtain ⟨b, off, rfl, hp⟩ := HC.out k q hq
          obtain ⟨c0, c1, c2, c3⟩ := hp.below bw
          have HT := ofL_step hq
          obtain ⟨O, hO⟩ : ∃ O, ofL (L.take k) = O := ⟨_, rfl⟩
          have hOl : O.length ≤ 100000 := by
            have h1 := ofL_len (L.take k) []
            have h2 : (L.take k).length ≤ k := by rw [List.length_take]; omega
            have h3 : ofL (L.take k) = (L.take k).foldl (fun o q => putF q false o) [] := rfl
            rw [← h3, hO] at h1
            simp at h1
            omega
          rw [hO] at HT H
          obtain ⟨qk, qx, qn, qt⟩ := q
          simp only at c0 c1 c2 c3
          obtain ⟨pv, cv, rfl, _⟩ : ∃ p c, u7 = .slice p O.length c ∧ True := by
            obtain ⟨p, c, h1, _⟩ := H.out.val
            exact ⟨p, c, h1, trivial⟩
          have b1 : Below w.heap.size w (wr.alloc (.cells #[.string qk, .int .i64 qx, .int .i64 qn, .string qt] 48)) := bw.alloc bw.size _
          have cP := put_any _ O (qk, qx, qn, qt) (wr.alloc (.cells #[.string qk, .int .i64 qx, .int .i64 qn, .string qt] 48)) (H.out.below ((Below.refl _ _).alloc (Nat.le_refl _) _)) hOl
          have HT2 : Hid (ofL (L.take (k + 1)) = putF (qk, qx, qn, qt) false O) := HT
          clear HT hO hOl H hp hq
          generalize O.length = ol at *
          go_wp2_with fail
          refine cP.mono ?_; rintro r w3 ⟨v3, rfl, own, b3⟩
          have b4 := b1.trans (b3.mono b1.size)
          have R3 : Hid (RowA w3 v3 (ofL (L.take (k + 1)))) := by show RowA _ _ _; rw [HT2.out]; exact own_rowA own
          clear own b3 b1 cP c0 c1 c2 c3 bw
          go_wp2
          go_roundw
          case rel => exact ⟨k + 1, by omega, by go_num, b4, R3.out⟩
          case measure => simp [RowKit.intOf]; omega
        · have hltI : ¬ (k : Int) < n := by omega
          have h1 : EE = 0 := by rw [← HR.out.1, H1.out]
          have h2 : RL = ofL L := by rw [← HR.out.2, if_pos H1.out]
          have R2 : Hid (RowA wr u7 (ofL L)) := by
            have := H.out
            rwa [List.take_of_length_le (by rw [HN.out]; omega)] at this
          subst h1
          clear H
          go_wp2
          go_ret2
          exact ⟨_, rfl, by first | exact R2.out | (rw [h2]; exact R2.out), bw⟩
end Go.Proofs.YtigmhbgdnmkooaaDoor

/- attrs.Of, purely: turned round, stably sorted, the firsts kept: the patch of pairs in any order. -/
namespace Go.Proofs.YtigmhbgdnmkooaaDoor
open Go Go.RowKit Go.Lib
set_option linter.unusedVariables false

theorem put_mem {q y : A2} : ∀ {D : Bool} {L : List A2}, y ∈ putF q D L → y = q ∨ (y ∈ L ∧ y.1 ≠ q.1)
  | D, [], h => by
    rw [putF] at h
    cases D
    · exact Or.inl (by simpa using h)
    · simp at h
  | D, x :: r, h => by
    rw [putF] at h
    simp only [List.mem_append] at h
    rcases h with h | h | h
    · split at h
      · exact Or.inl (by simpa using h)
      · simp at h
    · split at h
      · simp at h
      · rename_i hne
        obtain rfl : y = x := by simpa using h
        exact Or.inr ⟨List.mem_cons_self .., hne⟩
    · rcases put_mem h with h | ⟨h, h'⟩
      · exact Or.inl h
      · exact Or.inr ⟨List.mem_cons_of_mem _ h, h'⟩
theorem put_true_mem {q y : A2} : ∀ {L : List A2}, y ∈ putF q true L → y ∈ L ∧ y.1 ≠ q.1
  | [], h => by rw [putF] at h; simp at h
  | x :: r, h => by
    rw [putF] at h
    simp only [List.mem_append] at h
    rcases h with h | h | h
    · simp at h
    · split at h
      · simp at h
      · rename_i hne
        obtain rfl : y = x := by simpa using h
        exact ⟨List.mem_cons_self .., hne⟩
    · obtain ⟨h1, h2⟩ := put_true_mem (by simpa using h)
      exact ⟨List.mem_cons_of_mem _ h1, h2⟩
theorem put_true {q : A2} : ∀ {L : List A2}, Up L → Up (putF q true L) ∧ ∀ k, look k (putF q true L) = if q.1 = k then none else look k L
  | [], _ => by
    rw [putF, if_pos rfl]
    exact ⟨List.Pairwise.nil, fun k => by show none = _; split <;> rfl⟩
  | x :: r, h => by
    obtain ⟨h1, h2⟩ := List.pairwise_cons.1 h
    obtain ⟨u, l⟩ := put_true (q := q) h2
    have e : putF q true (x :: r) = (if x.1 = q.1 then [] else [x]) ++ putF q true r := by rw [putF]; rfl
    rw [e]
    by_cases hx : x.1 = q.1
    · rw [if_pos hx, List.nil_append]
      refine ⟨u, fun k => ?_⟩
      rw [l, look]
      by_cases hk : q.1 = k
      · rw [if_pos hk, if_pos hk]
      · rw [if_neg hk, if_neg hk, if_neg (by rw [hx]; exact hk)]
    · rw [if_neg hx]
      refine ⟨List.pairwise_cons.2 ⟨fun y hy => h1 y (put_true_mem hy).1, u⟩, fun k => ?_⟩
      show look k (x :: putF q true r) = _
      rw [look, look, l]
      by_cases hk : q.1 = k
      · rw [if_pos hk, if_pos hk, if_neg (fun h => hx (h.trans hk.symm))]
      · rw [if_neg hk, if_neg hk]
theorem put_false {q : A2} : ∀ {L : List A2}, Up L → Up (putF q false L) ∧ ∀ k, look k (putF q false L) = if q.1 = k then some q.2 else look k L
  | [], _ => by
    rw [putF]
    exact ⟨List.pairwise_singleton _ _, fun k => rfl⟩
  | x :: r, h => by
    obtain ⟨h1, h2⟩ := List.pairwise_cons.1 h
    by_cases hlt : kc x.1 q.1 < 0
    · obtain ⟨u, l⟩ := put_false (q := q) h2
      have hx : x.1 ≠ q.1 := kc_ne hlt
      have e : putF q false (x :: r) = x :: putF q false r := by
        rw [putF, if_neg (by simp [hlt]), if_neg hx, decide_eq_true hlt]; rfl
      rw [e]
      refine ⟨List.pairwise_cons.2 ⟨fun y hy => ?_, u⟩, fun k => ?_⟩
      · rcases put_mem hy with rfl | ⟨hy, _⟩
        · exact hlt
        · exact h1 y hy
      · rw [look, look, l]
        by_cases hk : x.1 = k
        · rw [if_pos hk, if_neg (fun h => hx (hk.trans h.symm)), if_pos hk]
        · rw [if_neg hk, if_neg hk]
    · obtain ⟨u, l⟩ := put_true (q := q) h
      have e : putF q false (x :: r) = q :: putF q true (x :: r) := by
        rw [putF, putF, if_pos (by simp [hlt]), decide_eq_false hlt]; rfl
      rw [e]
      have hge : ∀ y ∈ x :: r, y.1 ≠ q.1 → kc q.1 y.1 < 0 := fun y hy hne => by
        have hxq : ∀ z : A2, ¬ kc z.1 q.1 < 0 → z.1 ≠ q.1 → kc q.1 z.1 < 0 := fun z hz hn => kc_gt hz fun h0 => hn (kc_zero.1 h0)
        rcases List.mem_cons.1 hy with rfl | hy
        · exact hxq _ hlt hne
        · refine hxq y (fun hh => hlt ?_) hne
          exact kc_lt (h1 y hy) hh
      refine ⟨List.pairwise_cons.2 ⟨fun y hy => ?_, u⟩, fun k => ?_⟩
      · obtain ⟨h3, h4⟩ := put_true_mem hy
        exact hge y h3 h4
      · rw [look, l]
        by_cases hk : q.1 = k
        · rw [if_pos hk, if_pos hk]
        · rw [if_neg hk, if_neg hk, if_neg hk]
theorem fold_look : ∀ (L O : List A2), Up O → Up (L.foldl (fun o q => putF q false o) O) ∧ ∀ k, look k (L.foldl (fun o q => putF q false o) O) = (look k L.reverse).or (look k O)
  | [], O, h => ⟨h, fun k => by show look k O = (look k []).or _; rfl⟩
  | q :: r, O, h => by
    obtain ⟨u, l⟩ := put_false (q := q) h
    obtain ⟨u2, l2⟩ := fold_look r (putF q false O) u
    refine ⟨u2, fun k => ?_⟩
    show look k (r.foldl (fun o q => putF q false o) (putF q false O)) = _
    rw [l2, l, List.reverse_cons, look_append, Option.or_assoc]
    congr 1
    show _ = (look k [q]).or _
    rw [look]
    split <;> rfl
/-- What attrs.Of makes of good pairs. -/
theorem of_firsts {L M : List A2} (h : SL L.reverse M) (hs : Srt M) : firsts M = ofL L := by
  obtain ⟨u, l⟩ := fold_look L [] List.Pairwise.nil
  exact firsts_one h hs u fun k => by
    show look k (L.foldl _ []) = _
    rw [l]
    show (look k L.reverse).or none = _
    rw [Option.or_none]
end Go.Proofs.YtigmhbgdnmkooaaDoor

/- slices.rotateCmpFunc at pairs. -/
namespace Go.Proofs.YtigmhbgdnmkooaaDoor
open Go Go.RowKit Go.Lib Go.Sort
set_option linter.unusedVariables false

theorem SWK.from {enc : A2 → List Value} {w0 w W : World} {blk : Nat} {d : Array A2} (h : SWK enc 4 w0 blk 0 d W) : Hid (SWK enc 4 w0 blk 0 d W) := h

set_option maxHeartbeats 2000000 in
set_option maxRecDepth 1000000 in
theorem rotate_any (blk cap a m b : Nat) (d0 d : Array A2) (w0 w : World) (f : Value) (R : RowK encA 4 w0 blk 0 d0) (hs : d0.size = d.size) (S : SWK encA 4 w0 blk 0 d w) (ham : a < m) (hmb : m < b) (hb : b ≤ d.size) (hsz : d.size < 4611686018427387904) :
    Calls Tryd.prog 82 #[.slice (some ⟨blk, 0, none⟩) d.size cap, .int .i64 a, .int .i64 m, .int .i64 b, f] w fun e w' => e = .returned (.tuple #[]) ∧ SWK encA 4 w0 blk 0 (rotL m (m - a) (b - m) d) w' := by
  have S0 : Hid (SWK encA 4 w0 blk 0 d w) := S
  obtain ⟨Z, hZ⟩ : ∃ Z, d.size = Z := ⟨_, rfl⟩
  have C : Hid (∀ (a' b' m' : Nat) (dk : Array A2) (W : World), dk.size = Z → SWK encA 4 w0 blk 0 dk W → a' + m' ≤ b' → b' + m' ≤ Z → Calls Tryd.prog 86 #[.slice (some ⟨blk, 0, none⟩) Z cap, .int .i64 a', .int .i64 b', .int .i64 m', f] W fun e w' => e = .returned (.tuple #[]) ∧ SWK encA 4 w0 blk 0 (swr dk a' b' m') w') := fun a' b' m' dk W hk h1 h2 h3 => by
    have := swapRange_any blk cap a' b' m' d0 dk w0 W f R (by rw [hs, hZ, hk]) h1 h2 (by rw [hk]; exact h3) (by rw [hk, ← hZ]; exact hsz)
    rwa [hk] at this
  obtain ⟨RT, hRT⟩ : ∃ RT, rotL m (m - a) (b - m) d = RT := ⟨_, rfl⟩
  rw [hRT]
  have HRT : Hid (rotL m (m - a) (b - m) d = RT) := hRT
  have HZ : Hid (d.size = Z) := hZ
  rw [hZ] at hb hsz ⊢
  clear S R hs hRT hZ
  go_enter Tryd.func82, Tryd.ntmps82
  go_wp2
  go_loopw [10, 11] (fun s t wr => ∃ (i j : Nat) (dk : Array A2), 0 < i ∧ 0 < j ∧ i ≤ m ∧ m + j ≤ Z ∧ s = .int .i64 i ∧ t = .int .i64 j ∧ Hid (SWK encA 4 w0 blk 0 dk wr ∧ dk.size = Z ∧ rotL m i j dk = RT)) (fun s t _ => (RowKit.intOf s).toNat + (RowKit.intOf t).toNat)
  case atStart =>
    refine ⟨m - a, b - m, d, by omega, by omega, by omega, by omega, ?_, ?_, S0.out, HZ.out, HRT.out⟩
    · rw [Int.ofNat_sub (by omega)]
    · rw [Int.ofNat_sub (by omega)]
  case round =>
    clear S0 HZ HRT
    obtain ⟨i, j, dk, hi, hj, him, hmj, rfl, rfl, H⟩ := hrel
    by_cases heq : i = j
    · subst heq
      have hx : ((i : Int) != (i : Int)) = false := by simp
      have e1 : (m : Int) - (i : Int) = ((m - i : Nat) : Int) := by omega
      have c1 := C.out (m - i) m i dk wr H.out.2.1 H.out.1 (by omega) hmj
      have HF : Hid (swr dk (m - i) m i = RT) := by
        have := H.out.2.2
        rw [rotL, if_neg (by omega), if_pos rfl] at this
        exact this
      rw [← e1, HF.out] at c1
      clear C H e1
      go_wp2_with fail
      refine c1.mono ?_; rintro r w2 ⟨rfl, h2⟩
      go_wp2
      go_end0
      exact ⟨rfl, h2⟩
    · have hx : ((i : Int) != (j : Int)) = true := by simp; omega
      by_cases hlt : j < i
      · have hltI : (j : Int) < (i : Int) := by omega
        have e1 : (m : Int) - (i : Int) = ((m - i : Nat) : Int) := by omega
        have e2 : (i : Int) - (j : Int) = ((i - j : Nat) : Int) := by omega
        have c1 := C.out (m - i) m j dk wr H.out.2.1 H.out.1 (by omega) hmj
        have HF : Hid (rotL m (i - j) j (swr dk (m - i) m j) = RT) := by
          have := H.out.2.2
          rw [rotL, if_neg (by omega), if_neg heq, if_pos hlt] at this
          exact this
        have HS : Hid ((swr dk (m - i) m j).size = Z) := by show _ = _; rw [swr_size]; exact H.out.2.1
        have E2 : Hid _ := e2
        rw [← e1] at c1
        clear C H e1 e2 heq
        go_wp2_with fail
        refine c1.mono ?_; rintro r w2 ⟨rfl, h2⟩
        have H2 : Hid _ := h2
        clear h2 c1
        go_wp2
        go_roundw
        case rel => exact ⟨i - j, j, _, by omega, hj, by omega, hmj, by rw [E2.out], rfl, H2.out, HS.out, HF.out⟩
        case measure => simp [RowKit.intOf]; omega
      · have hltI : ¬ (j : Int) < (i : Int) := by omega
        have hij : i < j := by omega
        have e1 : (m : Int) - (i : Int) = ((m - i : Nat) : Int) := by omega
        have e2 : (j : Int) - (i : Int) = ((j - i : Nat) : Int) := by omega
        have e3 : (m : Int) + (j : Int) - (i : Int) = ((m + j - i : Nat) : Int) := by omega
        have c1 := C.out (m - i) (m + j - i) i dk wr H.out.2.1 H.out.1 (by omega) (by omega)
        have HF : Hid (rotL m i (j - i) (swr dk (m - i) (m + j - i) i) = RT) := by
          have := H.out.2.2
          rw [rotL, if_neg (by omega), if_neg heq, if_neg hlt] at this
          exact this
        have HS : Hid ((swr dk (m - i) (m + j - i) i).size = Z) := by show _ = _; rw [swr_size]; exact H.out.2.1
        have E2 : Hid _ := e2
        rw [← e1, ← e3] at c1
        clear C H e1 e2 e3 heq
        go_wp2_with fail
        refine c1.mono ?_; rintro r w2 ⟨rfl, h2⟩
        have H2 : Hid _ := h2
        clear h2 c1
        go_wp2
        go_roundw
        case rel => exact ⟨i, j - i, _, hi, by omega, him, by omega, rfl, by rw [E2.out], H2.out, HS.out, HF.out⟩
        case measure => simp [RowKit.intOf]; omega
end Go.Proofs.YtigmhbgdnmkooaaDoor

/- Insertion sort of a range, purely: it is a stable sort by keys. -/
namespace Go.Proofs.YtigmhbgdnmkooaaDoor
open Go Go.Sort
set_option linter.unusedVariables false

/-- The j-th goes down to its place, not below a. -/
def insJ (a : Nat) : Nat → Array A2 → Array A2
  | 0, d => d
  | j + 1, d => if a < j + 1 ∧ kc d[j + 1]!.1 d[j]!.1 < 0 then insJ a j (swp d (j + 1) j) else d
def insR (a : Nat) : Nat → Nat → Array A2 → Array A2
  | 0, _, d => d
  | c + 1, i, d => insR a c (i + 1) (insJ a i d)
theorem getB_of {d : Array A2} {i : Nat} {q : A2} (h : d[i]? = some q) : d[i]! = q := by rw [getElem!_def, h]
theorem mid_get (P A : List A2) (q : A2) (T : List A2) : (P ++ (A ++ q :: T)).toArray[P.length + A.length]? = some q := by
  rw [List.getElem?_toArray, List.getElem?_append_right (by omega), List.getElem?_append_right (by omega), Nat.add_sub_cancel_left, Nat.sub_self]; rfl
theorem swp_mid (P A : List A2) (x q : A2) (T : List A2) : swp (P ++ (A ++ x :: q :: T)).toArray (P.length + A.length + 1) (P.length + A.length) = (P ++ (A ++ q :: x :: T)).toArray := by
  have h1 := getB_of (mid_get P A x (q :: T))
  have h2 : (P ++ (A ++ x :: q :: T)).toArray[P.length + A.length + 1]! = q := by
    have := mid_get P (A ++ [x]) q T
    rw [List.append_assoc, List.singleton_append] at this
    rw [List.length_append, List.length_singleton, ← Nat.add_assoc] at this
    exact getB_of this
  unfold swp
  rw [h1, h2]
  apply Array.ext'
  simp only [Array.toList_setIfInBounds]
  rw [List.set_append_right _ _ (by omega), List.set_append_right _ _ (by omega), show P.length + A.length + 1 - P.length = A.length + 1 by omega, show P.length + A.length - P.length = A.length by omega]
  rw [List.set_append_right _ _ (by omega), List.set_append_right _ _ (by omega), show A.length + 1 - A.length = 1 by omega, Nat.sub_self]
  rfl
/-- The next one goes to its place among those that don't fall. -/
theorem insJ_ok (P : List A2) (q : A2) : ∀ (n : Nat) (A T : List A2), A.length = n → Srt A → ∃ M, (insJ P.length (P.length + A.length) (P ++ (A ++ q :: T)).toArray = (P ++ (M ++ T)).toArray) ∧ SL (A ++ [q]) M ∧ Srt M ∧ ∃ A1 A2', A = A1 ++ A2' ∧ M = A1 ++ q :: A2' ∧ (∀ x ∈ A2', kc q.1 x.1 < 0) := by
  intro n
  induction n with
  | zero =>
    intro A T hn hs
    obtain rfl : A = [] := List.eq_nil_of_length_eq_zero hn
    refine ⟨[q], ?_, SL.refl _, List.pairwise_singleton _ _, [], [], rfl, rfl, fun x hx => (by cases hx)⟩
    have : ∀ (a : Nat) (d : Array A2), insJ a (a + 0) d = d := fun a d => by
      cases a with
      | zero => rfl
      | succ a => show insJ (a + 1) (a + 1) d = d; rw [insJ, if_neg (by omega)]
    exact this _ _
  | succ n ih =>
    intro A T hn hs
    obtain ⟨A', x, rfl⟩ : ∃ A' x, A = A' ++ [x] := ⟨A.dropLast, A.getLast (by intro e; rw [e] at hn; simp at hn), (List.dropLast_concat_getLast _).symm⟩
    have hA' : A'.length = n := by simpa using hn
    obtain ⟨s1, _, s3⟩ := srt_append.1 hs
    have e1 : P ++ (A' ++ [x] ++ q :: T) = P ++ (A' ++ x :: q :: T) := by simp
    have g1 := getB_of (mid_get P A' x (q :: T))
    have g2 : (P ++ (A' ++ x :: q :: T)).toArray[P.length + A'.length + 1]! = q := by
      have := mid_get P (A' ++ [x]) q T
      rw [List.append_assoc, List.singleton_append, List.length_append, List.length_singleton, ← Nat.add_assoc] at this
      exact getB_of this
    rw [e1, List.length_append, List.length_singleton, ← Nat.add_assoc, insJ, g1, g2]
    by_cases hlt : kc q.1 x.1 < 0
    · rw [if_pos ⟨by omega, hlt⟩, swp_mid]
      obtain ⟨M, h1, h2, h3, A1, A2', h4, h5, h6⟩ := ih A' (x :: T) hA' s1
      have hx : ∀ y ∈ A2' ++ [x], kc q.1 y.1 < 0 := fun y hy => by
        rcases List.mem_append.1 hy with hy | hy
        · exact h6 y hy
        · obtain rfl := List.mem_singleton.1 hy; exact hlt
      refine ⟨M ++ [x], by rw [h1]; simp, ?_, ?_, A1, A2' ++ [x], by rw [h4]; simp, by rw [h5]; simp, hx⟩
      all_goals
        subst h4 h5
        have hh := put_last (q := q) (A1 := A1) (A2' := A2' ++ [x]) (by simpa [List.append_assoc] using hs) (fun y hy => by
          have h7 := (srt_append.1 h3).2.2 y hy q (List.mem_cons_self ..)
          exact h7) hx
        first | (have := hh.1; simpa [List.append_assoc] using this) | (have := hh.2; simpa [List.append_assoc] using this)
    · rw [if_neg (fun h => hlt h.2)]
      refine ⟨A' ++ [x] ++ [q], by simp, SL.refl _, srt_append.2 ⟨hs, List.pairwise_singleton _ _, fun y hy z hz => ?_⟩, A' ++ [x], [], by simp, by simp, fun y hy => (by cases hy)⟩
      obtain rfl := List.mem_singleton.1 hz
      rcases List.mem_append.1 hy with hy | hy
      · exact kc_le_trans (s3 y hy x (List.mem_cons_self ..)) hlt
      · obtain rfl := List.mem_singleton.1 hy; exact hlt
/-- Insertion sort of a range. -/
theorem insR_ok (P : List A2) : ∀ (R A T : List A2), Srt A → ∃ M, insR P.length R.length (P.length + A.length) (P ++ (A ++ (R ++ T))).toArray = (P ++ (M ++ T)).toArray ∧ SL (A ++ R) M ∧ Srt M := by
  intro R
  induction R with
  | nil => intro A T hs; exact ⟨A, rfl, by rw [List.append_nil]; exact SL.refl _, hs⟩
  | cons q R ih =>
    intro A T hs
    obtain ⟨M, h1, h2, h3, _⟩ := insJ_ok P q A.length A (R ++ T) rfl hs
    obtain ⟨N, g1, g2, g3⟩ := ih M T h3
    have hl : M.length = A.length + 1 := by have := h2.perm.length_eq; simpa using this
    refine ⟨N, ?_, ?_, g3⟩
    · rw [List.length_cons, insR, List.cons_append, h1, ← g1, hl, ← Nat.add_assoc]
    · have := (h2.append (SL.refl R)).trans g2
      simpa [List.append_assoc] using this
end Go.Proofs.YtigmhbgdnmkooaaDoor

/- Merging within a range, purely: runs of a row as lists, the step of a symmetric merge, one pair put to its place. -/
namespace Go.Proofs.YtigmhbgdnmkooaaDoor
open Go Go.RowKit Go.Lib Go.Sort
set_option linter.unusedVariables false

/-- The run from a up to b. -/
def sg (d : Array A2) (a b : Nat) : List A2 := (List.range' a (b - a)).map fun k => d[k]!
theorem sg_append (d : Array A2) {a m b : Nat} (h1 : a ≤ m) (h2 : m ≤ b) : sg d a b = sg d a m ++ sg d m b := by
  unfold sg
  rw [← List.map_append]
  congr 1
  have := List.range'_append_1 (s := a) (m := m - a) (n := b - m)
  rw [show a + (m - a) = m by omega, show m - a + (b - m) = b - a by omega] at this
  exact this.symm
theorem mem_sg {d : Array A2} {a b : Nat} {x : A2} : x ∈ sg d a b ↔ ∃ k, a ≤ k ∧ k < b ∧ x = d[k]! := by
  unfold sg
  rw [List.mem_map]
  constructor
  · rintro ⟨k, hk, rfl⟩
    have := List.mem_range'_1.1 hk
    exact ⟨k, by omega, by omega, rfl⟩
  · rintro ⟨k, h1, h2, rfl⟩
    exact ⟨k, List.mem_range'_1.2 (by omega), rfl⟩
theorem sg_congr {d d' : Array A2} {a b a' : Nat} (h : ∀ k, k < b - a → d'[a' + k]! = d[a + k]!) : sg d' a' (a' + (b - a)) = sg d a b := by
  unfold sg
  rw [Nat.add_sub_cancel_left, List.range'_eq_map_range, List.range'_eq_map_range, List.map_map, List.map_map]
  apply List.map_congr_left
  intro k hk
  exact h k (List.mem_range.1 hk)
theorem sg_same {d d' : Array A2} {a b : Nat} (h : ∀ k, a ≤ k → k < b → d'[k]! = d[k]!) : sg d' a b = sg d a b := by
  unfold sg
  apply List.map_congr_left
  intro k hk
  have := List.mem_range'_1.1 hk
  exact h k (by omega) (by omega)
theorem sg_nil (d : Array A2) {a b : Nat} (h : b ≤ a) : sg d a b = [] := by unfold sg; rw [show b - a = 0 by omega]; rfl
theorem sg_one (d : Array A2) (a : Nat) : sg d a (a + 1) = [d[a]!] := by unfold sg; rw [Nat.add_sub_cancel_left]; rfl
theorem srt_sg {d : Array A2} {a b : Nat} : Srt (sg d a b) ↔ ∀ i j, a ≤ i → i < j → j < b → ¬ kc d[j]!.1 d[i]!.1 < 0 := by
  constructor
  · intro h i j h1 h2 h3
    rw [sg_append d (m := j) (by omega) (by omega)] at h
    exact (srt_append.1 h).2.2 _ (mem_sg.2 ⟨i, h1, h2, rfl⟩) _ (mem_sg.2 ⟨j, Nat.le_refl _, h3, rfl⟩)
  · intro h
    unfold sg Srt
    rw [List.pairwise_map]
    refine List.Pairwise.imp_of_mem (fun {x y} hx hy hxy => ?_) (List.pairwise_lt_range' (s := a) (n := b - a))
    have h1 := List.mem_range'_1.1 hx
    have h2 := List.mem_range'_1.1 hy
    exact h x y (by omega) hxy (by omega)
/-- The range from a up to b is stably sorted, the rest stands. -/
structure Mg (a b : Nat) (d d' : Array A2) : Prop where
  size : d'.size = d.size
  rest : ∀ k, k < a ∨ b ≤ k → d'[k]! = d[k]!
  sl : SL (sg d a b) (sg d' a b)
  srt : Srt (sg d' a b)
theorem Mg.refl {a b : Nat} {d : Array A2} (h : Srt (sg d a b)) : Mg a b d d := ⟨rfl, fun _ _ => rfl, SL.refl _, h⟩
/-- What rotating about m makes of the runs. -/
theorem rot_sg {d : Array A2} {s m e : Nat} (h1 : s ≤ m) (h2 : m ≤ e) (h3 : e ≤ d.size) : (rotL m (m - s) (e - m) d).size = d.size ∧ (∀ k, k < s ∨ e ≤ k → (rotL m (m - s) (e - m) d)[k]! = d[k]!) ∧
    sg (rotL m (m - s) (e - m) d) s (s + (e - m)) = sg d m e ∧ sg (rotL m (m - s) (e - m) d) (s + (e - m)) e = sg d s m := by
  have hat := rotL_at m (m - s) (e - m) d (by omega) (by omega)
  have g : ∀ k, (rotL m (m - s) (e - m) d)[k]! = if s ≤ k ∧ k < s + (e - m) then d[k + (m - s)]! else if s + (e - m) ≤ k ∧ k < e then d[k - (e - m)]! else d[k]! := fun k => by
    rw [getElem!_def, hat k, show m - (m - s) = s by omega, show m + (e - m) = e by omega]
    repeat' split
    all_goals simp_all [getElem!_def]
  refine ⟨rotL_size _ _ _ _, fun k hk => ?_, ?_, ?_⟩
  · rw [g k, if_neg (by omega), if_neg (by omega)]
  · exact sg_congr fun k hk => by rw [g, if_pos (by omega), show s + k + (m - s) = m + k by omega]
  · have := sg_congr (d := d) (d' := rotL m (m - s) (e - m) d) (a := s) (b := m) (a' := s + (e - m)) fun k hk => by
      rw [g, if_neg (by omega), if_pos (by omega), show s + (e - m) + k - (e - m) = s + k by omega]
    rwa [show s + (e - m) + (m - s) = e by omega] at this
/-- The step of a symmetric merge: rotated about m, then each half merged. -/
theorem sym_step {a s m e b c : Nat} {d r d1 d2 : Array A2} (h1 : a ≤ s) (h2 : s ≤ m) (h3 : m ≤ e) (h4 : e ≤ b) (hc : c = s + (e - m)) (sA : Srt (sg d a m)) (sB : Srt (sg d m b))
    (o1 : ∀ i j, a ≤ i → i < s → e ≤ j → j < b → ¬ kc d[j]!.1 d[i]!.1 < 0) (o2 : ∀ i j, s ≤ i → i < m → m ≤ j → j < e → kc d[j]!.1 d[i]!.1 < 0)
    (R : r.size = d.size ∧ (∀ k, k < s ∨ e ≤ k → r[k]! = d[k]!) ∧ sg r s c = sg d m e ∧ sg r c e = sg d s m) (M1 : Mg a c r d1) (M2 : Mg c b d1 d2) : Mg a b d d2 := by
  obtain ⟨r0, r1, r2, r3⟩ := R
  have sA' := sA; have sB' := sB
  rw [sg_append d h1 h2] at sA'
  rw [sg_append d h3 h4] at sB'
  have t1 : sg r a c = sg d a s ++ sg d m e := by rw [sg_append r (m := s) h1 (by omega), r2, sg_same fun k _ hk => r1 k (Or.inl hk)]
  have t2 : sg d1 c b = sg d s m ++ sg d e b := by
    rw [sg_same (d := r) fun k hk _ => M1.rest k (Or.inr hk), sg_append r (m := e) (by omega) h4, r3, sg_same (d := d) (d' := r) fun k hk _ => r1 k (Or.inr hk)]
  have t3 : sg d2 a c = sg d1 a c := sg_same fun k _ hk => M2.rest k (Or.inl hk)
  have g := merge_halves sA' sB' (fun x hx y hy => by
    obtain ⟨i, i1, i2, rfl⟩ := mem_sg.1 hx
    obtain ⟨j, j1, j2, rfl⟩ := mem_sg.1 hy
    exact o1 i j i1 i2 j1 j2) (fun x hx y hy => by
    obtain ⟨i, i1, i2, rfl⟩ := mem_sg.1 hx
    obtain ⟨j, j1, j2, rfl⟩ := mem_sg.1 hy
    exact o2 i j i1 i2 j1 j2) (by rw [← t1]; exact M1.sl) (by rw [← t2]; exact M2.sl) M1.srt M2.srt
  refine ⟨M2.size.trans (M1.size.trans r0), fun k hk => ?_, ?_, ?_⟩
  · rw [M2.rest k (by omega), M1.rest k (by omega), r1 k (by omega)]
  · rw [sg_append d (m := m) (by omega) (by omega), sg_append d h1 h2, sg_append d h3 h4, sg_append d2 (m := c) (by omega) (by omega), t3]
    exact g.1
  · rw [sg_append d2 (m := c) (by omega) (by omega), t3]
    exact g.2
end Go.Proofs.YtigmhbgdnmkooaaDoor

/- The small cases of a merge, purely: one pair moved up or down to its place; what a binary search may go by. -/
namespace Go.Proofs.YtigmhbgdnmkooaaDoor
open Go Go.RowKit Go.Lib Go.Sort
set_option linter.unusedVariables false

theorem kc_le_lt {x y z : ByteArray} (h1 : ¬ kc y x < 0) (h2 : kc y z < 0) : kc x z < 0 := by
  rcases Classical.em (kc x z < 0) with h | h
  · exact h
  · exact absurd h2 (kc_le_trans h h1)
theorem kc_lt_le' {x y z : ByteArray} (h1 : kc x y < 0) (h2 : ¬ kc z y < 0) : kc x z < 0 := by
  rcases Classical.em (kc x z < 0) with h | h
  · exact h
  · exact absurd h1 (kc_le_trans h2 h)
/-- c exchanges of neighbours, from a upwards. -/
def mvU (d : Array A2) (a : Nat) : Nat → Array A2
  | 0 => d
  | c + 1 => swp (mvU d a c) (a + c) (a + c + 1)
/-- c exchanges of neighbours, from m downwards. -/
def mvD (d : Array A2) (m : Nat) : Nat → Array A2
  | 0 => d
  | c + 1 => swp (mvD d m c) (m - c) (m - c - 1)
theorem swp_sz (d : Array A2) (i j : Nat) : (swp d i j).size = d.size := by simp [swp]
theorem mvU_size (d : Array A2) (a : Nat) : ∀ c, (mvU d a c).size = d.size
  | 0 => rfl
  | c + 1 => by rw [mvU, swp_sz, mvU_size d a c]
theorem mvD_size (d : Array A2) (m : Nat) : ∀ c, (mvD d m c).size = d.size
  | 0 => rfl
  | c + 1 => by rw [mvD, swp_sz, mvD_size d m c]
theorem mvU_at (d : Array A2) (a : Nat) : ∀ (c k : Nat), a + c < d.size → (mvU d a c)[k]? = if a ≤ k ∧ k < a + c then d[k + 1]? else if k = a + c then d[a]? else d[k]?
  | 0, k, h => by
    rw [mvU, if_neg (by omega)]
    split
    · rename_i h; rw [h]; rfl
    · rfl
  | c + 1, k, h => by
    have ih := fun k => mvU_at d a c k (by omega)
    have hz := mvU_size d a c
    rw [mvU, swp_at _ _ _ _ (by omega) (by omega), ih, ih, ih]
    repeat' split
    all_goals first | omega | rfl | (congr 1; omega)
theorem mvD_at (d : Array A2) (m : Nat) : ∀ (c k : Nat), c ≤ m → m < d.size → (mvD d m c)[k]? = if k = m - c then d[m]? else if m - c < k ∧ k ≤ m then d[k - 1]? else d[k]?
  | 0, k, h, h' => by
    rw [mvD, Nat.sub_zero]
    split
    · rename_i h; rw [h]
    · rw [if_neg (by omega)]
  | c + 1, k, h, h' => by
    have ih := fun k => mvD_at d m c k (by omega) h'
    have hz := mvD_size d m c
    rw [mvD, swp_at _ _ _ _ (by omega) (by omega), ih, ih, ih]
    repeat' split
    all_goals first | omega | rfl | (congr 1; omega)
/-- One pair ahead of a sorted run: up to the first that isn't less. -/
theorem one_up {a i b : Nat} {d : Array A2} (h1 : a + 1 ≤ i) (h2 : i ≤ b) (h3 : b ≤ d.size) (sB : Srt (sg d (a + 1) b)) (o1 : ∀ k, a + 1 ≤ k → k < i → kc d[k]!.1 d[a]!.1 < 0) (o2 : ∀ k, i ≤ k → k < b → ¬ kc d[k]!.1 d[a]!.1 < 0) :
    Mg a b d (mvU d a (i - 1 - a)) := by
  have g : ∀ k, (mvU d a (i - 1 - a))[k]! = if a ≤ k ∧ k < i - 1 then d[k + 1]! else if k = i - 1 then d[a]! else d[k]! := fun k => by
    rw [getElem!_def, mvU_at d a _ k (by omega), show a + (i - 1 - a) = i - 1 by omega]
    repeat' split
    all_goals simp_all [getElem!_def]
  have e1 : sg (mvU d a (i - 1 - a)) a (i - 1) = sg d (a + 1) i := by
    have := sg_congr (d := d) (d' := mvU d a (i - 1 - a)) (a := a + 1) (b := i) (a' := a) fun k hk => by rw [g, if_pos (by omega), show a + k + 1 = a + 1 + k by omega]
    rwa [show a + (i - (a + 1)) = i - 1 by omega] at this
  have e2 : sg (mvU d a (i - 1 - a)) (i - 1) i = [d[a]!] := by
    have := sg_one (mvU d a (i - 1 - a)) (i - 1)
    rwa [show i - 1 + 1 = i by omega, g, if_neg (by omega), if_pos rfl] at this
  have e3 : sg (mvU d a (i - 1 - a)) i b = sg d i b := sg_same fun k h _ => by rw [g, if_neg (by omega), if_neg (by omega)]
  have e4 : sg (mvU d a (i - 1 - a)) a b = sg d (a + 1) i ++ d[a]! :: sg d i b := by
    rw [sg_append _ (a := a) (m := i - 1) (b := b) (by omega) (by omega), sg_append _ (a := i - 1) (m := i) (b := b) (by omega) (by omega), e1, e2, e3]; rfl
  have e5 : sg d a b = d[a]! :: (sg d (a + 1) i ++ sg d i b) := by
    rw [sg_append d (a := a) (m := a + 1) (b := b) (by omega) (by omega), sg_one, sg_append d (a := a + 1) (m := i) (b := b) h1 h2]; rfl
  rw [sg_append d h1 h2] at sB
  have p := put_first (q := d[a]!) sB (fun y hy => by obtain ⟨k, k1, k2, rfl⟩ := mem_sg.1 hy; exact o1 k k1 k2) (fun y hy => by obtain ⟨k, k1, k2, rfl⟩ := mem_sg.1 hy; exact o2 k k1 k2)
  exact ⟨mvU_size _ _ _, fun k hk => by rw [g, if_neg (by omega), if_neg (by omega)], by rw [e4, e5]; exact p.1, by rw [e4]; exact p.2⟩
/-- One pair behind a sorted run: down to behind the last that isn't greater. -/
theorem one_down {a i m : Nat} {d : Array A2} (h1 : a ≤ i) (h2 : i ≤ m) (h3 : m < d.size) (sA : Srt (sg d a m)) (o1 : ∀ k, a ≤ k → k < i → ¬ kc d[m]!.1 d[k]!.1 < 0) (o2 : ∀ k, i ≤ k → k < m → kc d[m]!.1 d[k]!.1 < 0) :
    Mg a (m + 1) d (mvD d m (m - i)) := by
  have g : ∀ k, (mvD d m (m - i))[k]! = if k = i then d[m]! else if i < k ∧ k ≤ m then d[k - 1]! else d[k]! := fun k => by
    rw [getElem!_def, mvD_at d m _ k (by omega) h3, show m - (m - i) = i by omega]
    repeat' split
    all_goals simp_all [getElem!_def]
  have e1 : sg (mvD d m (m - i)) a i = sg d a i := sg_same fun k _ h => by rw [g, if_neg (by omega), if_neg (by omega)]
  have e2 : sg (mvD d m (m - i)) i (i + 1) = [d[m]!] := by rw [sg_one, g, if_pos rfl]
  have e3 : sg (mvD d m (m - i)) (i + 1) (m + 1) = sg d i m := by
    have := sg_congr (d := d) (d' := mvD d m (m - i)) (a := i) (b := m) (a' := i + 1) fun k hk => by rw [g, if_neg (by omega), if_pos (by omega), show i + 1 + k - 1 = i + k by omega]
    rwa [show i + 1 + (m - i) = m + 1 by omega] at this
  have e4 : sg (mvD d m (m - i)) a (m + 1) = sg d a i ++ d[m]! :: sg d i m := by
    rw [sg_append _ (a := a) (m := i) (b := m + 1) (by omega) (by omega), sg_append _ (a := i) (m := i + 1) (b := m + 1) (by omega) (by omega), e1, e2, e3]; rfl
  have e5 : sg d a (m + 1) = (sg d a i ++ sg d i m) ++ [d[m]!] := by
    rw [sg_append d (a := a) (m := m) (b := m + 1) (by omega) (by omega), sg_one, sg_append d h1 h2]
  rw [sg_append d h1 h2] at sA
  have p := put_last (q := d[m]!) sA (fun y hy => by obtain ⟨k, k1, k2, rfl⟩ := mem_sg.1 hy; exact o1 k k1 k2) (fun y hy => by obtain ⟨k, k1, k2, rfl⟩ := mem_sg.1 hy; exact o2 k k1 k2)
  exact ⟨mvD_size _ _ _, fun k hk => by rw [g, if_neg (by omega), if_neg (by omega)], by rw [e4, e5]; exact p.1, by rw [e4]; exact p.2⟩
/-- The three searches: what holds at h holds on its side. -/
theorem up_mono {d : Array A2} {m b a h : Nat} (sB : Srt (sg d m b)) (hh : h < b) (hm : m ≤ h) : (kc d[h]!.1 d[a]!.1 < 0 → ∀ k, m ≤ k → k ≤ h → kc d[k]!.1 d[a]!.1 < 0) ∧ (¬ kc d[h]!.1 d[a]!.1 < 0 → ∀ k, h ≤ k → k < b → ¬ kc d[k]!.1 d[a]!.1 < 0) := by
  have s := srt_sg.1 sB
  refine ⟨fun p k k1 k2 => ?_, fun p k k1 k2 => ?_⟩
  · rcases Nat.eq_or_lt_of_le k2 with rfl | h'
    · exact p
    · exact kc_le_lt (s k h k1 h' hh) p
  · rcases Nat.eq_or_lt_of_le k1 with rfl | h'
    · exact p
    · exact kc_le_trans p (s h k hm h' k2)
theorem down_mono {d : Array A2} {a m h q : Nat} (sA : Srt (sg d a m)) (hh : h < m) (ha : a ≤ h) : (¬ kc d[q]!.1 d[h]!.1 < 0 → ∀ k, a ≤ k → k ≤ h → ¬ kc d[q]!.1 d[k]!.1 < 0) ∧ (kc d[q]!.1 d[h]!.1 < 0 → ∀ k, h ≤ k → k < m → kc d[q]!.1 d[k]!.1 < 0) := by
  have s := srt_sg.1 sA
  refine ⟨fun p k k1 k2 => ?_, fun p k k1 k2 => ?_⟩
  · rcases Nat.eq_or_lt_of_le k2 with rfl | h'
    · exact p
    · exact kc_le_trans (s k h k1 h' hh) p
  · rcases Nat.eq_or_lt_of_le k1 with rfl | h'
    · exact p
    · exact kc_lt_le' p (s h k ha h' k2)
/-- The search of a symmetric merge about p + 1 = n: from what holds next to the place found, what the step asks. -/
theorem sym_found {d : Array A2} {a m b n s lo r : Nat} (sA : Srt (sg d a m)) (sB : Srt (sg d m b)) (hlo : a ≤ lo) (hls : lo ≤ s) (hsr : s ≤ r) (hrm : r ≤ m) (hmn : m + s ≤ n) (hnb : n ≤ b + lo) (elo : lo = a ∨ n = b + lo) (er : r = m ∨ n = m + r)
    (f1 : lo < s → ¬ kc d[n - s]!.1 d[s - 1]!.1 < 0) (f2 : s < r → kc d[n - 1 - s]!.1 d[s]!.1 < 0) :
    (∀ i j, a ≤ i → i < s → n - s ≤ j → j < b → ¬ kc d[j]!.1 d[i]!.1 < 0) ∧ (∀ i j, s ≤ i → i < m → m ≤ j → j < n - s → kc d[j]!.1 d[i]!.1 < 0) := by
  have a1 := srt_sg.1 sA
  have b1 := srt_sg.1 sB
  refine ⟨fun i j i1 i2 j1 j2 => ?_, fun i j i1 i2 j1 j2 => ?_⟩
  · have hls' : lo < s := by omega
    have p := f1 hls'
    have p1 : ¬ kc d[n - s]!.1 d[i]!.1 < 0 := by
      rcases Nat.eq_or_lt_of_le (show i ≤ s - 1 by omega) with h | h
      · rw [h]; exact p
      · exact kc_le_trans (a1 i (s - 1) i1 h (by omega)) p
    rcases Nat.eq_or_lt_of_le j1 with h | h
    · rw [← h]; exact p1
    · exact kc_le_trans p1 (b1 (n - s) j (by omega) h j2)
  · have hsr' : s < r := by omega
    have p := f2 hsr'
    have p1 : kc d[n - 1 - s]!.1 d[i]!.1 < 0 := by
      rcases Nat.eq_or_lt_of_le i1 with h | h
      · rw [← h]; exact p
      · exact kc_lt_le' p (a1 s i (by omega) h i2)
    rcases Nat.eq_or_lt_of_le (show j ≤ n - 1 - s by omega) with h | h
    · rw [h]; exact p1
    · exact kc_le_lt (b1 j (n - 1 - s) j1 h (by omega)) p1
end Go.Proofs.YtigmhbgdnmkooaaDoor

/- Sorting by blocks and merging them, purely. -/
namespace Go.Proofs.YtigmhbgdnmkooaaDoor
open Go Go.RowKit Go.Lib Go.Sort
set_option linter.unusedVariables false

/-- From lo on, blocks of s, as far as hi, are each sorted. -/
def Blks (s : Nat) (d : Array A2) (lo hi : Nat) : Prop := ∀ t i j, lo + s * t ≤ i → i < j → j < lo + s * t + s → j < hi → ¬ kc d[j]!.1 d[i]!.1 < 0
theorem Mg.whole {a b n : Nat} {d d' : Array A2} (h : Mg a b d d') (h1 : a ≤ b) (h2 : b ≤ n) : SL (sg d 0 n) (sg d' 0 n) := by
  rw [sg_append d (a := 0) (m := a) (b := n) (by omega) (by omega), sg_append d (a := a) (m := b) (b := n) h1 h2, sg_append d' (a := 0) (m := a) (b := n) (by omega) (by omega), sg_append d' (a := a) (m := b) (b := n) h1 h2]
  rw [sg_same (d := d) (d' := d') (a := 0) (b := a) fun k _ hk => h.rest k (Or.inl hk), sg_same (d := d) (d' := d') (a := b) (b := n) fun k hk _ => h.rest k (Or.inr hk)]
  exact (SL.refl _).append (h.sl.append (SL.refl _))
theorem blk_none (s : Nat) (d : Array A2) (lo : Nat) : Blks s d lo 0 := fun t i j _ _ _ h => absurd h (Nat.not_lt_zero _)
/-- The next block is sorted. -/
theorem blk_grow {s T a b : Nat} {d d' : Array A2} (ha : a = s * T) (M : Mg a b d d') (hb : b ≤ a + s) (L : Blks s d 0 a) : Blks s d' 0 b := by
  intro t i j h1 h2 h3 h4
  have S := srt_sg.1 M.srt
  rcases Nat.lt_trichotomy t T with ht | ht | ht
  · have h5 := Nat.mul_le_mul_left s (show t + 1 ≤ T from ht)
    rw [Nat.mul_add, Nat.mul_one] at h5
    rw [M.rest j (by omega), M.rest i (by omega)]
    exact L t i j h1 h2 h3 (by omega)
  · subst ht
    exact S i j (by omega) h2 h4
  · have h5 := Nat.mul_le_mul_left s (show T + 1 ≤ t from ht)
    rw [Nat.mul_add, Nat.mul_one] at h5
    omega
theorem blk_rest {s a b n : Nat} {d d' : Array A2} (M : Mg a b d d') (hb : b = a + 2 * s) (U : Blks s d a n) : Blks s d' b n := by
  subst hb
  intro t i j h1 h2 h3 h4
  rw [M.rest j (by omega), M.rest i (by omega)]
  have e : s * (t + 2) = s * t + s * 2 := Nat.mul_add ..
  exact U (t + 2) i j (by omega) h2 (by omega) h4
theorem blk_srt {s a n t x y : Nat} {d : Array A2} (U : Blks s d a n) (hx : x = a + s * t) (hy : y ≤ x + s) (hn : y ≤ n) : Srt (sg d x y) :=
  srt_sg.2 fun i j h1 h2 h3 => U t i j (by omega) h2 (by omega) (by omega)
/-- The last block has no partner. -/
theorem blk_last {s T a n : Nat} {d : Array A2} (ha : a = 2 * s * T) (L : Blks (2 * s) d 0 a) (U : Blks s d a n) (han : a ≤ n) (h : n ≤ a + s) : Blks (2 * s) d 0 n :=
  blk_grow ha (Mg.refl (blk_srt (t := 0) U (by omega) h (Nat.le_refl _))) (by omega) L
theorem blk_all {s n : Nat} {d : Array A2} (U : Blks s d 0 n) (h : n ≤ s) : Srt (sg d 0 n) := blk_srt (t := 0) U (by omega) (by omega) (Nat.le_refl _)
theorem sg_toList (d : Array A2) : sg d 0 d.size = d.toList := by
  apply List.ext_getElem
  · simp [sg]
  · intro k h1 h2
    simp only [sg, List.getElem_map, List.getElem_range', Array.getElem_toList]
    rw [Nat.zero_add, Nat.one_mul]
    exact getElem!_pos d k (by simpa using h2)
/-- Insertion sort of a range, said of runs. -/
theorem insR_mg {a b : Nat} {d : Array A2} (hab : a ≤ b) (hb : b ≤ d.size) : Mg a b d (insR a (b - (a + 1)) (a + 1) d) := by
  rcases Nat.eq_or_lt_of_le hab with rfl | hlt
  · rw [show a - (a + 1) = 0 by omega, insR]
    exact Mg.refl (by rw [sg_nil d (Nat.le_refl _)]; exact List.Pairwise.nil)
  obtain ⟨P, q, R, T, rfl, hP, hR⟩ : ∃ (P : List A2) (q : A2) (R T : List A2), d = (P ++ ([q] ++ (R ++ T))).toArray ∧ P.length = a ∧ R.length = b - (a + 1) := by
    have hl : d.toList.length = d.size := Array.length_toList
    refine ⟨d.toList.take a, d.toList[a]'(by omega), (d.toList.drop (a + 1)).take (b - (a + 1)), (d.toList.drop (a + 1)).drop (b - (a + 1)), ?_, by rw [List.length_take]; omega, by rw [List.length_take, List.length_drop]; omega⟩
    rw [List.take_append_drop, List.singleton_append, List.getElem_cons_drop, List.take_append_drop]
  obtain ⟨M, h1, h2, h3⟩ := insR_ok P R [q] T (List.pairwise_singleton _ _)
  have h1' : insR a (b - (a + 1)) (a + 1) (P ++ ([q] ++ (R ++ T))).toArray = (P ++ (M ++ T)).toArray := by rw [List.length_singleton, hP, hR] at h1; exact h1
  have hM : M.length = R.length + 1 := by have := h2.perm.length_eq; rw [this, List.length_append, List.length_singleton]; omega
  have get : ∀ (L : List A2) k, L.toArray[k]! = L[k]?.getD default := fun L k => (getElem!_def L.toArray k).trans (by rw [List.getElem?_toArray]; cases L[k]? <;> rfl)
  have seg : ∀ (M' : List A2), M'.length = b - a → sg (P ++ (M' ++ T)).toArray a b = M' := fun M' hM' => by
    apply List.ext_getElem?
    intro k
    unfold sg
    rw [List.getElem?_map]
    by_cases hk : k < b - a
    · rw [List.getElem?_range' hk, Option.map_some, get, List.getElem?_append_right (by omega), List.getElem?_append_left (by omega), Nat.one_mul, show a + k - P.length = k by omega, List.getElem?_eq_getElem (by omega)]; rfl
    · rw [List.getElem?_eq_none (by rw [List.length_range']; omega), List.getElem?_eq_none (by omega)]; rfl
  have e1 := seg M (by omega)
  have e2 := seg ([q] ++ R) (by rw [List.length_append, List.length_singleton]; omega)
  rw [List.append_assoc] at e2
  rw [h1']
  refine ⟨by simp only [List.size_toArray, List.length_append, List.length_singleton, hM]; omega, fun k hk => ?_, by rw [e1, e2]; exact h2, by rw [e1]; exact h3⟩
  rw [get, get]
  congr 1
  rcases hk with hk | hk
  · rw [List.getElem?_append_left (by omega), List.getElem?_append_left (by omega)]
  · rw [List.getElem?_append_right (by omega), List.getElem?_append_right (by omega), List.getElem?_append_right (by omega), List.getElem?_append_right (by rw [List.length_singleton]; omega), List.getElem?_append_right (by rw [List.length_singleton]; omega)]
    congr 1
    rw [List.length_singleton]
    omega
end Go.Proofs.YtigmhbgdnmkooaaDoor

/- slices.symMergeCmpFunc at pairs, by their keys: one pair ahead of a sorted run. -/
namespace Go.Proofs.YtigmhbgdnmkooaaDoor
open Go Go.RowKit Go.Lib Go.Sort
set_option linter.unusedVariables false

/-- What byKey says, and what it leaves (Sk shows it). -/
def ByK : Prop := ∀ (x y : A2) (w0 : World) (blk : Nat) (d : Array A2) (W : World), SWK encA 4 w0 blk 0 d W → Calls Tryd.prog 41 #[atV x, atV y] W fun e w' => e = .returned (.int .i64 (kc x.1 y.1)) ∧ SWK encA 4 w0 blk 0 d w'
theorem swk_at {w0 W : World} {blk : Nat} {d0 dk : Array A2} (S : SWK encA 4 w0 blk 0 dk W) (R : RowK encA 4 w0 blk 0 d0) (hs : dk.size = d0.size) (i : Nat) (hi : i < dk.size) {x0 : ByteArray} {x1 x2 : Int} {x3 : ByteArray} (hx : dk[i]! = (x0, x1, x2, x3)) :
    (W.cell? ⟨blk, i * 4, none⟩ = some (.string x0) ∧ W.cell? ⟨blk, i * 4 + 1, none⟩ = some (.int .i64 x1) ∧ W.cell? ⟨blk, i * 4 + 2, none⟩ = some (.int .i64 x2) ∧ W.cell? ⟨blk, i * 4 + 3, none⟩ = some (.string x3)) ∧
    W.frozen? ⟨blk, i * 4, none⟩ = false ∧ W.frozen? ⟨blk, i * 4 + 1, none⟩ = false ∧ W.frozen? ⟨blk, i * 4 + 2, none⟩ = false ∧ W.frozen? ⟨blk, i * 4 + 3, none⟩ = false := by
  have hH : HoldsK encA 4 W blk 0 dk := S.holds R.hblk R.hH hs
  have h : ∀ c, c < 4 → W.cell? ⟨blk, i * 4 + c, none⟩ = some ((encA dk[i]!)[c]!) ∧ W.frozen? ⟨blk, i * 4 + c, none⟩ = false := fun c hc => by
    have := hH.cell (i := i) hi (c := c) hc
    rwa [Nat.zero_add] at this
  rw [hx] at h
  exact ⟨⟨(h 0 (by omega)).1, (h 1 (by omega)).1, (h 2 (by omega)).1, (h 3 (by omega)).1⟩, (h 0 (by omega)).2, (h 1 (by omega)).2, (h 2 (by omega)).2, (h 3 (by omega)).2⟩

set_option maxHeartbeats 4000000 in
set_option maxRecDepth 1000000 in
theorem sym_one (hK : ByK) (blk cap a m b : Nat) (d0 d : Array A2) (w0 w : World) (R : RowK encA 4 w0 blk 0 d0) (hs : d0.size = d.size) (S : SWK encA 4 w0 blk 0 d w) (hm : m = a + 1) (hmb : m ≤ b) (hb : b ≤ d.size) (hsz : d.size < 4611686018427387904) (sB : Srt (sg d m b)) :
    Calls Tryd.prog 78 #[.slice (some ⟨blk, 0, none⟩) d.size cap, .int .i64 a, .int .i64 m, .int .i64 b, .func (.func 41) #[] #[]] w fun e w' => e = .returned (.tuple #[]) ∧ ∃ d', Mg a b d d' ∧ SWK encA 4 w0 blk 0 d' w' := by
  have S0 : Hid (SWK encA 4 w0 blk 0 d w) := S
  have HR : Hid (RowK encA 4 w0 blk 0 d0) := R
  have HB : Hid (Srt (sg d m b) ∧ m = a + 1 ∧ b ≤ d.size) := ⟨sB, hm, hb⟩
  have HK : Hid ByK := hK
  obtain ⟨Z, hZ⟩ : ∃ Z, d.size = Z := ⟨_, rfl⟩
  have HZ : Hid (d.size = Z ∧ d0.size = Z) := ⟨hZ, by omega⟩
  rw [hZ] at hb hsz ⊢
  have em : (m : Int) - (a : Int) = 1 := by omega
  have haz : a < Z := by omega
  have bA : (a : Int) < (Z : Int) := by omega
  have bA0 : (0 : Int) ≤ (a : Int) := by omega
  obtain ⟨⟨y0, y1, y2, y3⟩, hY⟩ : ∃ q, d[a]! = q := ⟨_, rfl⟩
  have HY : Hid (d[a]! = (y0, y1, y2, y3)) := hY
  clear S R hs hZ sB hK hY hm
  have eg := enters_of Tryd.func41 (by kernel_rfl) rfl
  go_enter Tryd.func78, Tryd.ntmps78
  go_wp2
  go_loopw [10, 11, 12] (fun s t u wr => ∃ (i j : Nat), m ≤ i ∧ i ≤ j ∧ j ≤ b ∧ s = .int .i64 i ∧ t = .int .i64 j ∧ Hid (SWK encA 4 w0 blk 0 d wr ∧ (∀ k, m ≤ k → k < i → kc d[k]!.1 y0 < 0) ∧ ∀ k, j ≤ k → k < b → ¬ kc d[k]!.1 y0 < 0)) (fun s t _ _ => (RowKit.intOf t).toNat - (RowKit.intOf s).toNat)
  case atStart => exact ⟨m, b, Nat.le_refl _, hmb, Nat.le_refl _, rfl, rfl, S0.out, fun k h h' => by omega, fun k h h' => by omega⟩
  case round =>
    clear S0
    obtain ⟨i, j, hmi, hij, hjb, rfl, rfl, H⟩ := hrel
    by_cases hlt : i < j
    · have hltI : (i : Int) < (j : Int) := by omega
      obtain ⟨h, hh⟩ : ∃ h, (i + j) / 2 = h := ⟨_, rfl⟩
      have he : ((i : Int) + (j : Int)) / 2 = (h : Int) := by omega
      have hih : i ≤ h := by omega
      have hhj : h < j := by omega
      have hhI : (h : Int) < (Z : Int) := by omega
      have hhO : (0 : Int) ≤ (h : Int) := by omega
      obtain ⟨⟨x0, x1, x2, x3⟩, hX⟩ : ∃ q, d[h]! = q := ⟨_, rfl⟩
      have HX : Hid (∀ w', SWK encA 4 w0 blk 0 d w' → (w'.cell? ⟨blk, h * 4, none⟩ = some (.string x0) ∧ w'.cell? ⟨blk, h * 4 + 1, none⟩ = some (.int .i64 x1) ∧ w'.cell? ⟨blk, h * 4 + 2, none⟩ = some (.int .i64 x2) ∧ w'.cell? ⟨blk, h * 4 + 3, none⟩ = some (.string x3) ∧ w'.cell? ⟨blk, a * 4, none⟩ = some (.string y0) ∧ w'.cell? ⟨blk, a * 4 + 1, none⟩ = some (.int .i64 y1) ∧ w'.cell? ⟨blk, a * 4 + 2, none⟩ = some (.int .i64 y2) ∧ w'.cell? ⟨blk, a * 4 + 3, none⟩ = some (.string y3))) := fun w' hw => by
        have h1 := (swk_at hw HR.out (by rw [HZ.out.1, HZ.out.2]) h (by rw [HZ.out.1]; omega) hX).1
        have h2 := (swk_at hw HR.out (by rw [HZ.out.1, HZ.out.2]) a (by rw [HZ.out.1]; omega) HY.out).1
        exact ⟨h1.1, h1.2.1, h1.2.2.1, h1.2.2.2, h2.1, h2.2.1, h2.2.2.1, h2.2.2.2⟩
      have cK : ∀ W, SWK encA 4 w0 blk 0 d W → Calls Tryd.prog 41 #[atV (x0, x1, x2, x3), atV (y0, y1, y2, y3)] W fun e w' => e = .returned (.int .i64 (kc x0 y0)) ∧ SWK encA 4 w0 blk 0 d w' := fun W hW => HK.out (x0, x1, x2, x3) (y0, y1, y2, y3) w0 blk d W hW
      have s0 := H.out.1
      obtain ⟨c0, c1, c2, c3, e0, e1, e2, e3⟩ := HX.out _ s0
      have mo := up_mono (a := a) (h := h) HB.out.1 (by omega) (by omega)
      rw [hX, HY.out] at mo
      have HM : Hid _ := mo
      clear hX mo
      by_cases hk : kc x0 y0 < 0
      · have HF : Hid ((∀ k, m ≤ k → k < h + 1 → kc d[k]!.1 y0 < 0) ∧ ∀ k, j ≤ k → k < b → ¬ kc d[k]!.1 y0 < 0) := ⟨fun k k1 k2 => HM.out.1 hk k k1 (by omega), H.out.2.2⟩
        clear H HM
        go_wp2_with fail
        go_region_held3 (fun w' => (w'.cell? ⟨blk, h * 4, none⟩ = some (.string x0) ∧ w'.cell? ⟨blk, h * 4 + 1, none⟩ = some (.int .i64 x1) ∧ w'.cell? ⟨blk, h * 4 + 2, none⟩ = some (.int .i64 x2) ∧ w'.cell? ⟨blk, h * 4 + 3, none⟩ = some (.string x3) ∧ w'.cell? ⟨blk, a * 4, none⟩ = some (.string y0) ∧ w'.cell? ⟨blk, a * 4 + 1, none⟩ = some (.int .i64 y1) ∧ w'.cell? ⟨blk, a * 4 + 2, none⟩ = some (.int .i64 y2) ∧ w'.cell? ⟨blk, a * 4 + 3, none⟩ = some (.string y3)) ∧ SWK encA 4 w0 blk 0 d w')
          (exact ⟨by first | (with_reducible assumption) | (simp [*]; done), by first | (with_reducible assumption) | exact s0.drew⟩)
          (first | (go_at_call 41; refine (cK _ ?_).mono ?_; (· first | assumption | (apply And.right; assumption)); rintro r w3 ⟨rfl, s3⟩; have mm := HX.out _ s3))
        go_wp2
        go_roundw
        case rel => exact ⟨h + 1, j, by omega, by omega, hjb, by go_num, rfl, s3, HF.out.1, fun k k1 k2 => by have := HF.out.2 k k1 k2; omega⟩
        case measure => simp [RowKit.intOf]; omega
      · have HF : Hid ((∀ k, m ≤ k → k < i → kc d[k]!.1 y0 < 0) ∧ ∀ k, h ≤ k → k < b → ¬ kc d[k]!.1 y0 < 0) := ⟨H.out.2.1, fun k k1 k2 => HM.out.2 hk k k1 k2⟩
        clear H HM
        go_wp2_with fail
        go_region_held3 (fun w' => (w'.cell? ⟨blk, h * 4, none⟩ = some (.string x0) ∧ w'.cell? ⟨blk, h * 4 + 1, none⟩ = some (.int .i64 x1) ∧ w'.cell? ⟨blk, h * 4 + 2, none⟩ = some (.int .i64 x2) ∧ w'.cell? ⟨blk, h * 4 + 3, none⟩ = some (.string x3) ∧ w'.cell? ⟨blk, a * 4, none⟩ = some (.string y0) ∧ w'.cell? ⟨blk, a * 4 + 1, none⟩ = some (.int .i64 y1) ∧ w'.cell? ⟨blk, a * 4 + 2, none⟩ = some (.int .i64 y2) ∧ w'.cell? ⟨blk, a * 4 + 3, none⟩ = some (.string y3)) ∧ SWK encA 4 w0 blk 0 d w')
          (exact ⟨by first | (with_reducible assumption) | (simp [*]; done), by first | (with_reducible assumption) | exact s0.drew⟩)
          (first | (go_at_call 41; refine (cK _ ?_).mono ?_; (· first | assumption | (apply And.right; assumption)); rintro r w3 ⟨rfl, s3⟩; have mm := HX.out _ s3))
        go_wp2
        go_roundw
        case rel => exact ⟨i, h, hmi, hih, by omega, rfl, rfl, s3, HF.out.1, fun k k1 k2 => by have := HF.out.2 k k1 k2; omega⟩
        case measure => simp [RowKit.intOf]; omega
    · have hltI : ¬ (i : Int) < (j : Int) := by omega
      obtain rfl : i = j := by omega
      have HG : Hid (Mg a b d (mvU d a (i - 1 - a))) := by
        refine one_up (by have := HB.out.2.1; omega) hjb HB.out.2.2 (by have := HB.out.1; rwa [HB.out.2.1] at this) (fun k k1 k2 => ?_) (fun k k1 k2 => ?_)
        · rw [HY.out]; exact H.out.2.1 k (by have := HB.out.2.1; omega) k2
        · rw [HY.out]; exact H.out.2.2 k k1 k2
      have HS : Hid (SWK encA 4 w0 blk 0 d wr) := H.out.1
      have hai : a + 1 ≤ i := by have := HB.out.2.1; omega
      clear H em
      go_wp2_with fail
      go_loopw [13] (fun t wr => ∃ (k : Nat), a + k ≤ i - 1 ∧ t = .int .i64 ((a + k : Nat) : Int) ∧ Hid (SWK encA 4 w0 blk 0 (mvU d a k) wr)) (fun t _ => (i - 1) - (RowKit.intOf t).toNat)
      case atStart => exact ⟨0, by omega, rfl, HS.out⟩
      case round =>
        clear HS
        obtain ⟨k, hk, rfl, H⟩ := hrel
        obtain ⟨l, hl⟩ : ∃ l, a + k = l := ⟨_, rfl⟩
        rw [hl] at hk ⊢
        by_cases hlt2 : l < i - 1
        · obtain ⟨u, hu⟩ : ∃ u, l + 1 = u := ⟨_, rfl⟩
          have hltI2 : (l : Int) < (i : Int) - 1 := by omega
          have ew : IntKind.i64.wrap ((l : Int) + 1) = (l : Int) + 1 := by rw [IntKind.wrap_i64]; omega
          have en : ((l : Int) + 1).toNat = u := by omega
          have bl : (l : Int) < (Z : Int) := by omega
          have bu : (l : Int) + 1 < (Z : Int) := by omega
          have b0 : (0 : Int) ≤ (l : Int) := by omega
          have b1 : (0 : Int) ≤ (l : Int) + 1 := by omega
          clear HY bA bA0
          obtain ⟨dk, hdk⟩ : ∃ dk, mvU d a k = dk := ⟨_, rfl⟩
          have hz : dk.size = Z := by rw [← hdk, mvU_size]; exact HZ.out.1
          have HD : Hid (mvU d a (k + 1) = swp dk l u ∧ dk.size = Z) := ⟨by rw [mvU, hdk, hl, hu], hz⟩
          have S6 : Hid (SWK encA 4 w0 blk 0 dk wr) := by have := H.out; rwa [hdk] at this
          clear H hdk
          obtain ⟨⟨p0, p1, p2, p3⟩, hX⟩ : ∃ q, dk[l]! = q := ⟨_, rfl⟩
          obtain ⟨⟨q0, q1, q2, q3⟩, hY⟩ : ∃ q, dk[u]! = q := ⟨_, rfl⟩
          have HC6 := swk_at S6.out HR.out (by rw [hz, HZ.out.2]) l (by omega) hX
          have HD6 := swk_at S6.out HR.out (by rw [hz, HZ.out.2]) u (by omega) hY
          have HXY : Hid (dk[l]! = (p0, p1, p2, p3) ∧ dk[u]! = (q0, q1, q2, q3)) := ⟨hX, hY⟩
          obtain ⟨⟨c0, c1, c2, c3⟩, f0, f1, f2, f3⟩ := HC6
          obtain ⟨⟨e0, e1, e2, e3⟩, g0, g1, g2, g3⟩ := HD6
          have n00 : ¬ l * 4 = u * 4 := by omega
          have m00 : ¬ u * 4 = l * 4 := by omega
          have n01 : ¬ l * 4 = u * 4 + 1 := by omega
          have m01 : ¬ u * 4 + 1 = l * 4 := by omega
          have n02 : ¬ l * 4 = u * 4 + 2 := by omega
          have m02 : ¬ u * 4 + 2 = l * 4 := by omega
          have n03 : ¬ l * 4 = u * 4 + 3 := by omega
          have m03 : ¬ u * 4 + 3 = l * 4 := by omega
          have n10 : ¬ l * 4 + 1 = u * 4 := by omega
          have m10 : ¬ u * 4 = l * 4 + 1 := by omega
          have n11 : ¬ l * 4 + 1 = u * 4 + 1 := by omega
          have m11 : ¬ u * 4 + 1 = l * 4 + 1 := by omega
          have n12 : ¬ l * 4 + 1 = u * 4 + 2 := by omega
          have m12 : ¬ u * 4 + 2 = l * 4 + 1 := by omega
          have n13 : ¬ l * 4 + 1 = u * 4 + 3 := by omega
          have m13 : ¬ u * 4 + 3 = l * 4 + 1 := by omega
          have n20 : ¬ l * 4 + 2 = u * 4 := by omega
          have m20 : ¬ u * 4 = l * 4 + 2 := by omega
          have n21 : ¬ l * 4 + 2 = u * 4 + 1 := by omega
          have m21 : ¬ u * 4 + 1 = l * 4 + 2 := by omega
          have n22 : ¬ l * 4 + 2 = u * 4 + 2 := by omega
          have m22 : ¬ u * 4 + 2 = l * 4 + 2 := by omega
          have n23 : ¬ l * 4 + 2 = u * 4 + 3 := by omega
          have m23 : ¬ u * 4 + 3 = l * 4 + 2 := by omega
          have n30 : ¬ l * 4 + 3 = u * 4 := by omega
          have m30 : ¬ u * 4 = l * 4 + 3 := by omega
          have n31 : ¬ l * 4 + 3 = u * 4 + 1 := by omega
          have m31 : ¬ u * 4 + 1 = l * 4 + 3 := by omega
          have n32 : ¬ l * 4 + 3 = u * 4 + 2 := by omega
          have m32 : ¬ u * 4 + 2 = l * 4 + 3 := by omega
          have n33 : ¬ l * 4 + 3 = u * 4 + 3 := by omega
          have m33 : ¬ u * 4 + 3 = l * 4 + 3 := by omega
          clear hX hY hz
          go_wp2_with fail
          have S3 : Hid (SWK encA 4 w0 blk 0 (swp dk l u) (((((((((wr.setCell ⟨blk, l * 4, none⟩ (.string q0)).setCell ⟨blk, l * 4 + 1, none⟩ (.int .i64 q1)).setCell ⟨blk, l * 4 + 2, none⟩ (.int .i64 q2)).setCell ⟨blk, l * 4 + 3, none⟩ (.string q3)).setCell ⟨blk, u * 4, none⟩ (.string p0)).setCell ⟨blk, u * 4 + 1, none⟩ (.int .i64 p1)).setCell ⟨blk, u * 4 + 2, none⟩ (.int .i64 p2)).setCell ⟨blk, u * 4 + 3, none⟩ (.string p3)).drew)) := by
            have h := S6.out.swapped HR.out l u (by rw [HD.out.2]; omega) (by rw [HD.out.2]; omega)
            rw [HXY.out.1, HXY.out.2, Nat.zero_add, Nat.zero_add, setCells4, setCells4] at h
            simp only [setCell_drew]
            exact h
          go_big_region
          generalize ((((((((wr.setCell ⟨blk, l * 4, none⟩ (.string q0)).setCell ⟨blk, l * 4 + 1, none⟩ (.int .i64 q1)).setCell ⟨blk, l * 4 + 2, none⟩ (.int .i64 q2)).setCell ⟨blk, l * 4 + 3, none⟩ (.string q3)).setCell ⟨blk, u * 4, none⟩ (.string p0)).setCell ⟨blk, u * 4 + 1, none⟩ (.int .i64 p1)).setCell ⟨blk, u * 4 + 2, none⟩ (.int .i64 p2)).setCell ⟨blk, u * 4 + 3, none⟩ (.string p3)).drew = w5 at S3 ⊢
          go_wp2
          go_roundw
          case rel => exact ⟨k + 1, by omega, by rw [show a + (k + 1) = l + 1 by omega]; go_num, by rw [HD.out.1]; exact S3.out⟩
          case measure => simp [RowKit.intOf]; omega
        · have hltI2 : ¬ (l : Int) < (i : Int) - 1 := by omega
          have HE : Hid (k = i - 1 - a) := by show _ = _; omega
          have HS : Hid (SWK encA 4 w0 blk 0 (mvU d a (i - 1 - a)) wr) := by have := H.out; rwa [HE.out] at this
          clear H
          go_wp2
          refine bodyPost_ret (results_none rfl _ _ _) rfl ?_
          exact ⟨rfl, _, HG.out, HS.out⟩
end Go.Proofs.YtigmhbgdnmkooaaDoor

/- slices.insertionSortCmpFunc at pairs, by their keys. -/
namespace Go.Proofs.YtigmhbgdnmkooaaDoor
open Go Go.RowKit Go.Lib Go.Sort
set_option linter.unusedVariables false

set_option maxHeartbeats 4000000 in
set_option maxRecDepth 1000000 in
theorem insertion_any (blk cap a b : Nat) (d0 d : Array A2) (w0 w : World) (R : RowK encA 4 w0 blk 0 d0) (hs : d0.size = d.size) (S : SWK encA 4 w0 blk 0 d w) (hab : a ≤ b) (hb : b ≤ d.size) (hsz : d.size < 4611686018427387904) :
    Calls Tryd.prog 77 #[.slice (some ⟨blk, 0, none⟩) d.size cap, .int .i64 a, .int .i64 b, .func (.func 41) #[] #[]] w fun e w' => e = .returned (.tuple #[]) ∧ SWK encA 4 w0 blk 0 (insR a (b - (a + 1)) (a + 1) d) w' := by
  have S0 : Hid (SWK encA 4 w0 blk 0 d w) := S
  have HR : Hid (RowK encA 4 w0 blk 0 d0) := R
  obtain ⟨Z, hZ⟩ : ∃ Z, d.size = Z := ⟨_, rfl⟩
  obtain ⟨RT, hRT⟩ : ∃ RT, insR a (b - (a + 1)) (a + 1) d = RT := ⟨_, rfl⟩
  rw [hRT]
  have HRT : Hid (insR a (b - (a + 1)) (a + 1) d = RT) := hRT
  have HZ : Hid (d.size = Z ∧ d0.size = Z) := ⟨hZ, by omega⟩
  rw [hZ] at hb hsz ⊢
  have eg := enters_of Tryd.func41 (by kernel_rfl) rfl
  clear S R hs hRT hZ
  go_enter Tryd.func77, Tryd.ntmps77
  go_wp2
  go_loopw [8, 9] (fun s t wr => ∃ (i : Nat) (dk : Array A2), a < i ∧ i ≤ b + 1 ∧ s = .int .i64 i ∧ Hid (SWK encA 4 w0 blk 0 dk wr ∧ dk.size = Z ∧ insR a (b - i) i dk = RT)) (fun s _ _ => b + 1 - (RowKit.intOf s).toNat)
  case atStart => exact ⟨a + 1, d, by omega, by omega, by go_num, S0.out, HZ.out.1, HRT.out⟩
  case round =>
    clear S0 HRT
    obtain ⟨i, dk, hai, hib, rfl, H⟩ := hrel
    by_cases hlt : i < b
    · have hltI : (i : Int) < (b : Int) := by omega
      have HI : Hid (insR a (b - (i + 1)) (i + 1) (insJ a i dk) = RT) := by
        have := H.out.2.2
        rw [show b - i = (b - (i + 1)) + 1 by omega, insR] at this
        exact this
      have HS : Hid (SWK encA 4 w0 blk 0 dk wr ∧ dk.size = Z) := ⟨H.out.1, H.out.2.1⟩
      clear H
      go_wp2_with fail
      go_loopw [9] (fun t wr => ∃ (j : Nat) (dk : Array A2), a ≤ j ∧ j ≤ i ∧ t = .int .i64 j ∧ Hid (SWK encA 4 w0 blk 0 dk wr ∧ dk.size = Z ∧ insR a (b - (i + 1)) (i + 1) (insJ a j dk) = RT)) (fun t _ => (RowKit.intOf t).toNat)
      case atStart => exact ⟨i, dk, by omega, Nat.le_refl _, rfl, HS.out.1, HS.out.2, HI.out⟩
      case round =>
        clear HS HI
        obtain ⟨j, dk, haj, hji, rfl, H⟩ := hrel
        by_cases hgt : a < j
        · have hgtI : (a : Int) < (j : Int) := by omega
          obtain ⟨l, hl⟩ : ∃ l, j = l + 1 := ⟨j - 1, by omega⟩
          have ew : IntKind.i64.wrap ((j : Int) - 1) = (j : Int) - 1 := by rw [IntKind.wrap_i64]; omega
          have en : ((j : Int) - 1).toNat = l := by omega
          have bj : (j : Int) < (Z : Int) := by omega
          have bl : (j : Int) - 1 < (Z : Int) := by omega
          have b0 : (0 : Int) ≤ (j : Int) := by omega
          have b1 : (0 : Int) ≤ (j : Int) - 1 := by omega
          have b2 : (1 : Int) ≤ (j : Int) := by omega
          have b3 : 1 ≤ j := by omega
          have b4 : j - 1 = l := by omega
          obtain ⟨⟨x0, x1, x2, x3⟩, hX⟩ : ∃ q, dk[j]! = q := ⟨_, rfl⟩
          obtain ⟨⟨y0, y1, y2, y3⟩, hY⟩ : ∃ q, dk[l]! = q := ⟨_, rfl⟩
          have HX : Hid (∀ w', SWK encA 4 w0 blk 0 dk w' → (w'.cell? ⟨blk, j * 4, none⟩ = some (.string x0) ∧ w'.cell? ⟨blk, j * 4 + 1, none⟩ = some (.int .i64 x1) ∧ w'.cell? ⟨blk, j * 4 + 2, none⟩ = some (.int .i64 x2) ∧ w'.cell? ⟨blk, j * 4 + 3, none⟩ = some (.string x3) ∧ w'.cell? ⟨blk, l * 4, none⟩ = some (.string y0) ∧ w'.cell? ⟨blk, l * 4 + 1, none⟩ = some (.int .i64 y1) ∧ w'.cell? ⟨blk, l * 4 + 2, none⟩ = some (.int .i64 y2) ∧ w'.cell? ⟨blk, l * 4 + 3, none⟩ = some (.string y3))) := fun w' hw => by
            have h1 := (swk_at hw HR.out (by rw [H.out.2.1, HZ.out.2]) j (by rw [H.out.2.1]; omega) hX).1
            have h2 := (swk_at hw HR.out (by rw [H.out.2.1, HZ.out.2]) l (by rw [H.out.2.1]; omega) hY).1
            exact ⟨h1.1, h1.2.1, h1.2.2.1, h1.2.2.2, h2.1, h2.2.1, h2.2.2.1, h2.2.2.2⟩
          have cK : ∀ W, SWK encA 4 w0 blk 0 dk W → Calls Tryd.prog 41 #[atV (x0, x1, x2, x3), atV (y0, y1, y2, y3)] W fun e w' => e = .returned (.int .i64 (kc x0 y0)) ∧ SWK encA 4 w0 blk 0 dk w' := fun W hW => (byKey_any (x0, x1, x2, x3) (y0, y1, y2, y3) W).mono fun e w' ⟨h1, h2⟩ => ⟨h1, by rw [h2]; exact (hW.alloc _).alloc _⟩
          have s0 := H.out.1
          obtain ⟨c0, c1, c2, c3, e0, e1, e2, e3⟩ := HX.out _ s0
          have HXY : Hid (dk[j]! = (x0, x1, x2, x3) ∧ dk[l]! = (y0, y1, y2, y3) ∧ j = l + 1) := ⟨hX, hY, hl⟩
          clear hX hY hl
          by_cases hk : kc x0 y0 < 0
          · have HF : Hid (insR a (b - (i + 1)) (i + 1) (insJ a l (swp dk j l)) = RT ∧ dk.size = Z) := ⟨by
              have h := H.out.2.2
              obtain ⟨h1, h2, rfl⟩ := HXY.out
              rw [insJ, if_pos ⟨hgt, by rw [h1, h2]; exact hk⟩] at h
              exact h, H.out.2.1⟩
            clear H
            go_wp2_with fail
            go_region_held3 (fun w' => (w'.cell? ⟨blk, j * 4, none⟩ = some (.string x0) ∧ w'.cell? ⟨blk, j * 4 + 1, none⟩ = some (.int .i64 x1) ∧ w'.cell? ⟨blk, j * 4 + 2, none⟩ = some (.int .i64 x2) ∧ w'.cell? ⟨blk, j * 4 + 3, none⟩ = some (.string x3) ∧ w'.cell? ⟨blk, l * 4, none⟩ = some (.string y0) ∧ w'.cell? ⟨blk, l * 4 + 1, none⟩ = some (.int .i64 y1) ∧ w'.cell? ⟨blk, l * 4 + 2, none⟩ = some (.int .i64 y2) ∧ w'.cell? ⟨blk, l * 4 + 3, none⟩ = some (.string y3)) ∧ SWK encA 4 w0 blk 0 dk w')
              (exact ⟨by first | (with_reducible assumption) | (simp [*]; done), by first | (with_reducible assumption) | exact s0.drew⟩)
              (first | (go_at_call 41; refine (cK _ ?_).mono ?_; (· first | assumption | (apply And.right; assumption)); rintro r w3 ⟨rfl, s3⟩; have mm := HX.out _ s3))
            have S6 : Hid (SWK encA 4 w0 blk 0 dk w3) := s3
            have HC6 := swk_at s3 HR.out (by rw [HF.out.2, HZ.out.2]) j (by rw [HF.out.2]; omega) HXY.out.1
            have HD6 := swk_at s3 HR.out (by rw [HF.out.2, HZ.out.2]) l (by rw [HF.out.2]; omega) HXY.out.2.1
            obtain ⟨⟨c0, c1, c2, c3⟩, f0, f1, f2, f3⟩ := HC6
            obtain ⟨⟨e0, e1, e2, e3⟩, g0, g1, g2, g3⟩ := HD6
            have n00 : ¬ j * 4 = l * 4 := by have := HXY.out.2.2; omega
            have m00 : ¬ l * 4 = j * 4 := by have := HXY.out.2.2; omega
            have n01 : ¬ j * 4 = l * 4 + 1 := by have := HXY.out.2.2; omega
            have m01 : ¬ l * 4 + 1 = j * 4 := by have := HXY.out.2.2; omega
            have n02 : ¬ j * 4 = l * 4 + 2 := by have := HXY.out.2.2; omega
            have m02 : ¬ l * 4 + 2 = j * 4 := by have := HXY.out.2.2; omega
            have n03 : ¬ j * 4 = l * 4 + 3 := by have := HXY.out.2.2; omega
            have m03 : ¬ l * 4 + 3 = j * 4 := by have := HXY.out.2.2; omega
            have n10 : ¬ j * 4 + 1 = l * 4 := by have := HXY.out.2.2; omega
            have m10 : ¬ l * 4 = j * 4 + 1 := by have := HXY.out.2.2; omega
            have n11 : ¬ j * 4 + 1 = l * 4 + 1 := by have := HXY.out.2.2; omega
            have m11 : ¬ l * 4 + 1 = j * 4 + 1 := by have := HXY.out.2.2; omega
            have n12 : ¬ j * 4 + 1 = l * 4 + 2 := by have := HXY.out.2.2; omega
            have m12 : ¬ l * 4 + 2 = j * 4 + 1 := by have := HXY.out.2.2; omega
            have n13 : ¬ j * 4 + 1 = l * 4 + 3 := by have := HXY.out.2.2; omega
            have m13 : ¬ l * 4 + 3 = j * 4 + 1 := by have := HXY.out.2.2; omega
            have n20 : ¬ j * 4 + 2 = l * 4 := by have := HXY.out.2.2; omega
            have m20 : ¬ l * 4 = j * 4 + 2 := by have := HXY.out.2.2; omega
            have n21 : ¬ j * 4 + 2 = l * 4 + 1 := by have := HXY.out.2.2; omega
            have m21 : ¬ l * 4 + 1 = j * 4 + 2 := by have := HXY.out.2.2; omega
            have n22 : ¬ j * 4 + 2 = l * 4 + 2 := by have := HXY.out.2.2; omega
            have m22 : ¬ l * 4 + 2 = j * 4 + 2 := by have := HXY.out.2.2; omega
            have n23 : ¬ j * 4 + 2 = l * 4 + 3 := by have := HXY.out.2.2; omega
            have m23 : ¬ l * 4 + 3 = j * 4 + 2 := by have := HXY.out.2.2; omega
            have n30 : ¬ j * 4 + 3 = l * 4 := by have := HXY.out.2.2; omega
            have m30 : ¬ l * 4 = j * 4 + 3 := by have := HXY.out.2.2; omega
            have n31 : ¬ j * 4 + 3 = l * 4 + 1 := by have := HXY.out.2.2; omega
            have m31 : ¬ l * 4 + 1 = j * 4 + 3 := by have := HXY.out.2.2; omega
            have n32 : ¬ j * 4 + 3 = l * 4 + 2 := by have := HXY.out.2.2; omega
            have m32 : ¬ l * 4 + 2 = j * 4 + 3 := by have := HXY.out.2.2; omega
            have n33 : ¬ j * 4 + 3 = l * 4 + 3 := by have := HXY.out.2.2; omega
            have m33 : ¬ l * 4 + 3 = j * 4 + 3 := by have := HXY.out.2.2; omega
            clear s3 mm
            go_wp2_with fail
            have S3 : Hid (SWK encA 4 w0 blk 0 (swp dk j l) (((((((((w3.setCell ⟨blk, j * 4, none⟩ (.string y0)).setCell ⟨blk, j * 4 + 1, none⟩ (.int .i64 y1)).setCell ⟨blk, j * 4 + 2, none⟩ (.int .i64 y2)).setCell ⟨blk, j * 4 + 3, none⟩ (.string y3)).setCell ⟨blk, l * 4, none⟩ (.string x0)).setCell ⟨blk, l * 4 + 1, none⟩ (.int .i64 x1)).setCell ⟨blk, l * 4 + 2, none⟩ (.int .i64 x2)).setCell ⟨blk, l * 4 + 3, none⟩ (.string x3)).drew)) := by
              have h := S6.out.swapped HR.out j l (by rw [HF.out.2]; omega) (by rw [HF.out.2]; omega)
              rw [HXY.out.1, HXY.out.2.1, Nat.zero_add, Nat.zero_add, setCells4, setCells4] at h
              simp only [setCell_drew]
              exact h
            go_big_region
            generalize ((((((((w3.setCell ⟨blk, j * 4, none⟩ (.string y0)).setCell ⟨blk, j * 4 + 1, none⟩ (.int .i64 y1)).setCell ⟨blk, j * 4 + 2, none⟩ (.int .i64 y2)).setCell ⟨blk, j * 4 + 3, none⟩ (.string y3)).setCell ⟨blk, l * 4, none⟩ (.string x0)).setCell ⟨blk, l * 4 + 1, none⟩ (.int .i64 x1)).setCell ⟨blk, l * 4 + 2, none⟩ (.int .i64 x2)).setCell ⟨blk, l * 4 + 3, none⟩ (.string x3)).drew = w5 at S3 ⊢
            go_wp2
            go_roundw
            case rel => exact ⟨l, _, by have := HXY.out.2.2; omega, by have := HXY.out.2.2; omega, by rw [show ((l : Nat) : Int) = (j : Int) - 1 by omega], S3.out, by rw [size_swp]; exact HF.out.2, HF.out.1⟩
            case measure => simp [RowKit.intOf]; omega
          · have HF : Hid (insR a (b - (i + 1)) (i + 1) dk = RT ∧ dk.size = Z) := ⟨by
              have h := H.out.2.2
              obtain ⟨h1, h2, rfl⟩ := HXY.out
              rw [insJ, if_neg (fun h' => hk (by have := h'.2; rw [h1, h2] at this; exact this))] at h
              exact h, H.out.2.1⟩
            clear H
            go_wp2_with fail
            go_region_held3 (fun w' => (w'.cell? ⟨blk, j * 4, none⟩ = some (.string x0) ∧ w'.cell? ⟨blk, j * 4 + 1, none⟩ = some (.int .i64 x1) ∧ w'.cell? ⟨blk, j * 4 + 2, none⟩ = some (.int .i64 x2) ∧ w'.cell? ⟨blk, j * 4 + 3, none⟩ = some (.string x3) ∧ w'.cell? ⟨blk, l * 4, none⟩ = some (.string y0) ∧ w'.cell? ⟨blk, l * 4 + 1, none⟩ = some (.int .i64 y1) ∧ w'.cell? ⟨blk, l * 4 + 2, none⟩ = some (.int .i64 y2) ∧ w'.cell? ⟨blk, l * 4 + 3, none⟩ = some (.string y3)) ∧ SWK encA 4 w0 blk 0 dk w')
              (exact ⟨by first | (with_reducible assumption) | (simp [*]; done), by first | (with_reducible assumption) | exact s0.drew⟩)
              (first | (go_at_call 41; refine (cK _ ?_).mono ?_; (· first | assumption | (apply And.right; assumption)); rintro r w3 ⟨rfl, s3⟩; have mm := HX.out _ s3))
            have S6 : Hid (SWK encA 4 w0 blk 0 dk w3) := s3
            clear s3 mm
            go_wp2
            go_roundw
            case rel => exact ⟨i + 1, dk, by omega, by omega, by go_num, S6.out, HF.out.2, HF.out.1⟩
            case measure => simp [RowKit.intOf]; omega
        · have hgtI : ¬ (a : Int) < (j : Int) := by omega
          have hgtB : decide ((a : Int) < (j : Int)) = false := decide_eq_false hgtI
          have HF : Hid (SWK encA 4 w0 blk 0 dk wr ∧ dk.size = Z ∧ insR a (b - (i + 1)) (i + 1) dk = RT) := ⟨H.out.1, H.out.2.1, by
            have h := H.out.2.2
            have e : insJ a j dk = dk := by
              cases j with
              | zero => rfl
              | succ j => rw [insJ, if_neg (fun h' => hgt h'.1)]
            rw [e] at h; exact h⟩
          clear H
          go_wp2_with fail
          go_quiet (fail)
          go_wp2
          go_roundw
          case rel => exact ⟨i + 1, dk, by omega, by omega, by go_num, HF.out.1.drewN _, HF.out.2.1, HF.out.2.2⟩
          case measure => simp [RowKit.intOf]; omega
    · have hltI : ¬ (i : Int) < (b : Int) := by omega
      have HF : Hid (SWK encA 4 w0 blk 0 RT wr) := by
        have h := H.out.2.2
        rw [show b - i = 0 by omega, insR] at h
        rw [← h]; exact H.out.1
      clear H
      go_wp2
      go_end0
      exact ⟨rfl, HF.out⟩
end Go.Proofs.YtigmhbgdnmkooaaDoor

/- slices.symMergeCmpFunc at pairs, by their keys: one pair behind a sorted run. -/
namespace Go.Proofs.YtigmhbgdnmkooaaDoor
open Go Go.RowKit Go.Lib Go.Sort
set_option linter.unusedVariables false

set_option maxHeartbeats 4000000 in
set_option maxRecDepth 1000000 in
theorem sym_two (hK : ByK) (blk cap a m b : Nat) (d0 d : Array A2) (w0 w : World) (R : RowK encA 4 w0 blk 0 d0) (hs : d0.size = d.size) (S : SWK encA 4 w0 blk 0 d w) (hm : b = m + 1) (ham : a ≤ m) (hn : m ≠ a + 1) (hb : b ≤ d.size) (hsz : d.size < 4611686018427387904) (sB : Srt (sg d a m)) :
    Calls Tryd.prog 78 #[.slice (some ⟨blk, 0, none⟩) d.size cap, .int .i64 a, .int .i64 m, .int .i64 b, .func (.func 41) #[] #[]] w fun e w' => e = .returned (.tuple #[]) ∧ ∃ d', Mg a b d d' ∧ SWK encA 4 w0 blk 0 d' w' := by
  have S0 : Hid (SWK encA 4 w0 blk 0 d w) := S
  have HR : Hid (RowK encA 4 w0 blk 0 d0) := R
  have HB : Hid (Srt (sg d a m) ∧ b = m + 1 ∧ m < d.size) := ⟨sB, hm, by omega⟩
  have HK : Hid ByK := hK
  obtain ⟨Z, hZ⟩ : ∃ Z, d.size = Z := ⟨_, rfl⟩
  have HZ : Hid (d.size = Z ∧ d0.size = Z) := ⟨hZ, by omega⟩
  rw [hZ] at hb hsz ⊢
  have e0 : ((m : Int) - (a : Int) == 1) = false := by simp; omega
  have ew0 : IntKind.i64.wrap ((m : Int) - (a : Int)) = (m : Int) - (a : Int) := by rw [IntKind.wrap_i64]; omega
  have em : (b : Int) - (m : Int) = 1 := by omega
  have haz : m < Z := by omega
  have bA : (m : Int) < (Z : Int) := by omega
  have bA0 : (0 : Int) ≤ (m : Int) := by omega
  obtain ⟨⟨x0, x1, x2, x3⟩, hX⟩ : ∃ q, d[m]! = q := ⟨_, rfl⟩
  have HQ : Hid (d[m]! = (x0, x1, x2, x3)) := hX
  clear S R hs hZ sB hK hX hm hn
  have eg := enters_of Tryd.func41 (by kernel_rfl) rfl
  go_enter Tryd.func78, Tryd.ntmps78
  go_wp2
  clear e0 ew0
  go_loopw [14, 15, 16] (fun s t u wr => ∃ (i j : Nat), a ≤ i ∧ i ≤ j ∧ j ≤ m ∧ s = .int .i64 i ∧ t = .int .i64 j ∧ Hid (SWK encA 4 w0 blk 0 d wr ∧ (∀ k, a ≤ k → k < i → ¬ kc x0 d[k]!.1 < 0) ∧ ∀ k, j ≤ k → k < m → kc x0 d[k]!.1 < 0)) (fun s t _ _ => (RowKit.intOf t).toNat - (RowKit.intOf s).toNat)
  case atStart => exact ⟨a, m, Nat.le_refl _, ham, Nat.le_refl _, rfl, rfl, S0.out, fun k h h' => by omega, fun k h h' => by omega⟩
  case round =>
    clear S0
    obtain ⟨i, j, hmi, hij, hjb, rfl, rfl, H⟩ := hrel
    by_cases hlt : i < j
    · have hltI : (i : Int) < (j : Int) := by omega
      obtain ⟨h, hh⟩ : ∃ h, (i + j) / 2 = h := ⟨_, rfl⟩
      have he : ((i : Int) + (j : Int)) / 2 = (h : Int) := by omega
      have hih : i ≤ h := by omega
      have hhj : h < j := by omega
      have hhI : (h : Int) < (Z : Int) := by omega
      have hhO : (0 : Int) ≤ (h : Int) := by omega
      obtain ⟨⟨y0, y1, y2, y3⟩, hY⟩ : ∃ q, d[h]! = q := ⟨_, rfl⟩
      have HX : Hid (∀ w', SWK encA 4 w0 blk 0 d w' → (w'.cell? ⟨blk, m * 4, none⟩ = some (.string x0) ∧ w'.cell? ⟨blk, m * 4 + 1, none⟩ = some (.int .i64 x1) ∧ w'.cell? ⟨blk, m * 4 + 2, none⟩ = some (.int .i64 x2) ∧ w'.cell? ⟨blk, m * 4 + 3, none⟩ = some (.string x3) ∧ w'.cell? ⟨blk, h * 4, none⟩ = some (.string y0) ∧ w'.cell? ⟨blk, h * 4 + 1, none⟩ = some (.int .i64 y1) ∧ w'.cell? ⟨blk, h * 4 + 2, none⟩ = some (.int .i64 y2) ∧ w'.cell? ⟨blk, h * 4 + 3, none⟩ = some (.string y3))) := fun w' hw => by
        have h1 := (swk_at hw HR.out (by rw [HZ.out.1, HZ.out.2]) m (by rw [HZ.out.1]; omega) HQ.out).1
        have h2 := (swk_at hw HR.out (by rw [HZ.out.1, HZ.out.2]) h (by rw [HZ.out.1]; omega) hY).1
        exact ⟨h1.1, h1.2.1, h1.2.2.1, h1.2.2.2, h2.1, h2.2.1, h2.2.2.1, h2.2.2.2⟩
      have cK : ∀ W, SWK encA 4 w0 blk 0 d W → Calls Tryd.prog 41 #[atV (x0, x1, x2, x3), atV (y0, y1, y2, y3)] W fun e w' => e = .returned (.int .i64 (kc x0 y0)) ∧ SWK encA 4 w0 blk 0 d w' := fun W hW => HK.out (x0, x1, x2, x3) (y0, y1, y2, y3) w0 blk d W hW
      have s0 := H.out.1
      obtain ⟨c0, c1, c2, c3, e0, e1, e2, e3⟩ := HX.out _ s0
      have mo := down_mono (h := h) (q := m) HB.out.1 (by omega) (by omega)
      rw [hY, HQ.out] at mo
      have HM : Hid _ := mo
      clear hY mo
      by_cases hk : kc x0 y0 < 0
      · have HF : Hid ((∀ k, a ≤ k → k < i → ¬ kc x0 d[k]!.1 < 0) ∧ ∀ k, h ≤ k → k < m → kc x0 d[k]!.1 < 0) := ⟨H.out.2.1, fun k k1 k2 => HM.out.2 hk k k1 k2⟩
        clear H HM
        go_wp2_with fail
        go_region_held3 (fun w' => (w'.cell? ⟨blk, m * 4, none⟩ = some (.string x0) ∧ w'.cell? ⟨blk, m * 4 + 1, none⟩ = some (.int .i64 x1) ∧ w'.cell? ⟨blk, m * 4 + 2, none⟩ = some (.int .i64 x2) ∧ w'.cell? ⟨blk, m * 4 + 3, none⟩ = some (.string x3) ∧ w'.cell? ⟨blk, h * 4, none⟩ = some (.string y0) ∧ w'.cell? ⟨blk, h * 4 + 1, none⟩ = some (.int .i64 y1) ∧ w'.cell? ⟨blk, h * 4 + 2, none⟩ = some (.int .i64 y2) ∧ w'.cell? ⟨blk, h * 4 + 3, none⟩ = some (.string y3)) ∧ SWK encA 4 w0 blk 0 d w')
          (exact ⟨by first | (with_reducible assumption) | (simp [*]; done), by first | (with_reducible assumption) | exact s0.drew⟩)
          (first | (go_at_call 41; refine (cK _ ?_).mono ?_; (· first | assumption | (apply And.right; assumption)); rintro r w3 ⟨rfl, s3⟩; have mm := HX.out _ s3))
        go_wp2
        go_roundw
        case rel => exact ⟨i, h, hmi, hih, by omega, rfl, rfl, s3, fun k k1 k2 => by have := HF.out.1 k k1 k2; omega, HF.out.2⟩
        case measure => simp [RowKit.intOf]; omega
      · have hkD : decide (kc x0 y0 < 0) = false := decide_eq_false hk
        have hkB : (!decide (kc x0 y0 < 0)) = true := by rw [hkD]; rfl
        have HF : Hid ((∀ k, a ≤ k → k < h + 1 → ¬ kc x0 d[k]!.1 < 0) ∧ ∀ k, j ≤ k → k < m → kc x0 d[k]!.1 < 0) := ⟨fun k k1 k2 => HM.out.1 hk k k1 (by omega), H.out.2.2⟩
        clear H HM
        go_wp2_with fail
        go_region_held3 (fun w' => (w'.cell? ⟨blk, m * 4, none⟩ = some (.string x0) ∧ w'.cell? ⟨blk, m * 4 + 1, none⟩ = some (.int .i64 x1) ∧ w'.cell? ⟨blk, m * 4 + 2, none⟩ = some (.int .i64 x2) ∧ w'.cell? ⟨blk, m * 4 + 3, none⟩ = some (.string x3) ∧ w'.cell? ⟨blk, h * 4, none⟩ = some (.string y0) ∧ w'.cell? ⟨blk, h * 4 + 1, none⟩ = some (.int .i64 y1) ∧ w'.cell? ⟨blk, h * 4 + 2, none⟩ = some (.int .i64 y2) ∧ w'.cell? ⟨blk, h * 4 + 3, none⟩ = some (.string y3)) ∧ SWK encA 4 w0 blk 0 d w')
          (exact ⟨by first | (with_reducible assumption) | (simp [*]; done), by first | (with_reducible assumption) | exact s0.drew⟩)
          (first | (go_at_call 41; refine (cK _ ?_).mono ?_; (· first | assumption | (apply And.right; assumption)); rintro r w3 ⟨rfl, s3⟩; have mm := HX.out _ s3))
        go_wp2
        go_roundw
        case rel => exact ⟨h + 1, j, by omega, by omega, hjb, by go_num, rfl, s3, fun k k1 k2 => by have := HF.out.1 k k1 k2; omega, HF.out.2⟩
        case measure => simp [RowKit.intOf]; omega
    · have hltI : ¬ (i : Int) < (j : Int) := by omega
      obtain rfl : i = j := by omega
      have HG : Hid (Mg a b d (mvD d m (m - i))) := by
        have := one_down hmi hjb HB.out.2.2 HB.out.1 (fun k k1 k2 => by rw [HQ.out]; exact H.out.2.1 k k1 k2) (fun k k1 k2 => by rw [HQ.out]; exact H.out.2.2 k k1 k2)
        rwa [← HB.out.2.1] at this
      have HS : Hid (SWK encA 4 w0 blk 0 d wr) := H.out.1
      clear H em
      go_wp2_with fail
      go_loopw [17] (fun t wr => ∃ (l k : Nat), k + l = m ∧ i ≤ l ∧ t = .int .i64 (l : Int) ∧ Hid (SWK encA 4 w0 blk 0 (mvD d m k) wr)) (fun t _ => (RowKit.intOf t).toNat)
      case atStart => exact ⟨m, 0, by omega, hjb, rfl, HS.out⟩
      case round =>
        clear HS
        obtain ⟨l, k, hl, hk, rfl, H⟩ := hrel
        by_cases hlt2 : i < l
        · obtain ⟨u, hu⟩ : ∃ u, l = u + 1 := ⟨l - 1, by omega⟩
          have hltI2 : (i : Int) < (l : Int) := by omega
          have ew : IntKind.i64.wrap ((l : Int) - 1) = (l : Int) - 1 := by rw [IntKind.wrap_i64]; omega
          have en : ((l : Int) - 1).toNat = u := by omega
          have bl : (l : Int) < (Z : Int) := by omega
          have bu : (l : Int) - 1 < (Z : Int) := by omega
          have b2 : (1 : Int) ≤ (l : Int) := by omega
          have b1 : (0 : Int) ≤ (l : Int) - 1 := by omega
          have b0 : (0 : Int) ≤ (l : Int) := by omega
          clear HQ bA bA0
          obtain ⟨dk, hdk⟩ : ∃ dk, mvD d m k = dk := ⟨_, rfl⟩
          have hz : dk.size = Z := by rw [← hdk, mvD_size]; exact HZ.out.1
          have HD : Hid (mvD d m (k + 1) = swp dk l u ∧ dk.size = Z) := ⟨by rw [mvD, hdk, show m - k = l by omega, show l - 1 = u by omega], hz⟩
          have S6 : Hid (SWK encA 4 w0 blk 0 dk wr) := by have := H.out; rwa [hdk] at this
          clear H hdk
          obtain ⟨⟨p0, p1, p2, p3⟩, hX⟩ : ∃ q, dk[l]! = q := ⟨_, rfl⟩
          obtain ⟨⟨q0, q1, q2, q3⟩, hY⟩ : ∃ q, dk[u]! = q := ⟨_, rfl⟩
          have HC6 := swk_at S6.out HR.out (by rw [hz, HZ.out.2]) l (by omega) hX
          have HD6 := swk_at S6.out HR.out (by rw [hz, HZ.out.2]) u (by omega) hY
          have HXY : Hid (dk[l]! = (p0, p1, p2, p3) ∧ dk[u]! = (q0, q1, q2, q3)) := ⟨hX, hY⟩
          obtain ⟨⟨c0, c1, c2, c3⟩, f0, f1, f2, f3⟩ := HC6
          obtain ⟨⟨e0, e1, e2, e3⟩, g0, g1, g2, g3⟩ := HD6
          have n00 : ¬ l * 4 = u * 4 := by omega
          have m00 : ¬ u * 4 = l * 4 := by omega
          have n01 : ¬ l * 4 = u * 4 + 1 := by omega
          have m01 : ¬ u * 4 + 1 = l * 4 := by omega
          have n02 : ¬ l * 4 = u * 4 + 2 := by omega
          have m02 : ¬ u * 4 + 2 = l * 4 := by omega
          have n03 : ¬ l * 4 = u * 4 + 3 := by omega
          have m03 : ¬ u * 4 + 3 = l * 4 := by omega
          have n10 : ¬ l * 4 + 1 = u * 4 := by omega
          have m10 : ¬ u * 4 = l * 4 + 1 := by omega
          have n11 : ¬ l * 4 + 1 = u * 4 + 1 := by omega
          have m11 : ¬ u * 4 + 1 = l * 4 + 1 := by omega
          have n12 : ¬ l * 4 + 1 = u * 4 + 2 := by omega
          have m12 : ¬ u * 4 + 2 = l * 4 + 1 := by omega
          have n13 : ¬ l * 4 + 1 = u * 4 + 3 := by omega
          have m13 : ¬ u * 4 + 3 = l * 4 + 1 := by omega
          have n20 : ¬ l * 4 + 2 = u * 4 := by omega
          have m20 : ¬ u * 4 = l * 4 + 2 := by omega
          have n21 : ¬ l * 4 + 2 = u * 4 + 1 := by omega
          have m21 : ¬ u * 4 + 1 = l * 4 + 2 := by omega
          have n22 : ¬ l * 4 + 2 = u * 4 + 2 := by omega
          have m22 : ¬ u * 4 + 2 = l * 4 + 2 := by omega
          have n23 : ¬ l * 4 + 2 = u * 4 + 3 := by omega
          have m23 : ¬ u * 4 + 3 = l * 4 + 2 := by omega
          have n30 : ¬ l * 4 + 3 = u * 4 := by omega
          have m30 : ¬ u * 4 = l * 4 + 3 := by omega
          have n31 : ¬ l * 4 + 3 = u * 4 + 1 := by omega
          have m31 : ¬ u * 4 + 1 = l * 4 + 3 := by omega
          have n32 : ¬ l * 4 + 3 = u * 4 + 2 := by omega
          have m32 : ¬ u * 4 + 2 = l * 4 + 3 := by omega
          have n33 : ¬ l * 4 + 3 = u * 4 + 3 := by omega
          have m33 : ¬ u * 4 + 3 = l * 4 + 3 := by omega
          have HU : Hid (l = u + 1) := hu
          clear hX hY hz hu
          go_wp2_with fail
          have S3 : Hid (SWK encA 4 w0 blk 0 (swp dk l u) (((((((((wr.setCell ⟨blk, l * 4, none⟩ (.string q0)).setCell ⟨blk, l * 4 + 1, none⟩ (.int .i64 q1)).setCell ⟨blk, l * 4 + 2, none⟩ (.int .i64 q2)).setCell ⟨blk, l * 4 + 3, none⟩ (.string q3)).setCell ⟨blk, u * 4, none⟩ (.string p0)).setCell ⟨blk, u * 4 + 1, none⟩ (.int .i64 p1)).setCell ⟨blk, u * 4 + 2, none⟩ (.int .i64 p2)).setCell ⟨blk, u * 4 + 3, none⟩ (.string p3)).drew)) := by
            have h := S6.out.swapped HR.out l u (by rw [HD.out.2]; omega) (by rw [HD.out.2]; omega)
            rw [HXY.out.1, HXY.out.2, Nat.zero_add, Nat.zero_add, setCells4, setCells4] at h
            simp only [setCell_drew]
            exact h
          go_big_region
          generalize ((((((((wr.setCell ⟨blk, l * 4, none⟩ (.string q0)).setCell ⟨blk, l * 4 + 1, none⟩ (.int .i64 q1)).setCell ⟨blk, l * 4 + 2, none⟩ (.int .i64 q2)).setCell ⟨blk, l * 4 + 3, none⟩ (.string q3)).setCell ⟨blk, u * 4, none⟩ (.string p0)).setCell ⟨blk, u * 4 + 1, none⟩ (.int .i64 p1)).setCell ⟨blk, u * 4 + 2, none⟩ (.int .i64 p2)).setCell ⟨blk, u * 4 + 3, none⟩ (.string p3)).drew = w5 at S3 ⊢
          go_wp2
          go_roundw
          case rel => exact ⟨u, k + 1, by have := HU.out; omega, by have := HU.out; omega, by rw [show ((u : Nat) : Int) = (l : Int) - 1 by have := HU.out; omega], by rw [HD.out.1]; exact S3.out⟩
          case measure => simp [RowKit.intOf]; omega
        · have hltI2 : ¬ (i : Int) < (l : Int) := by omega
          have HE : Hid (k = m - i) := by show _ = _; omega
          have HS : Hid (SWK encA 4 w0 blk 0 (mvD d m (m - i)) wr) := by have := H.out; rwa [HE.out] at this
          clear H
          go_wp2
          refine bodyPost_ret (results_none rfl _ _ _) rfl ?_
          exact ⟨rfl, _, HG.out, HS.out⟩
end Go.Proofs.YtigmhbgdnmkooaaDoor

/- A symmetric merge's general step, purely: the four runs after rotating, and the whole from the two halves. -/
namespace Go.Proofs.YtigmhbgdnmkooaaDoor
open Go Go.RowKit Go.Lib Go.Sort
set_option linter.unusedVariables false

theorem srt_left {a m b : Nat} {d : Array A2} (h : Srt (sg d a b)) (h1 : a ≤ m) (h2 : m ≤ b) : Srt (sg d a m) ∧ Srt (sg d m b) := by
  rw [sg_append d h1 h2] at h
  exact ⟨(srt_append.1 h).1, (srt_append.1 h).2.1⟩
/-- After rotating: each half is two sorted runs (one of them may be empty). -/
theorem sym_runs {a s m e b c : Nat} {d r : Array A2} (h1 : a ≤ s) (h2 : s ≤ m) (h3 : m ≤ e) (h4 : e ≤ b) (hc : c = s + (e - m)) (sA : Srt (sg d a m)) (sB : Srt (sg d m b))
    (R : r.size = d.size ∧ (∀ k, k < s ∨ e ≤ k → r[k]! = d[k]!) ∧ sg r s c = sg d m e ∧ sg r c e = sg d s m) : Srt (sg r a s) ∧ Srt (sg r s c) ∧ Srt (sg r c e) ∧ Srt (sg r e b) := by
  obtain ⟨r0, r1, r2, r3⟩ := R
  have a1 := srt_left sA h1 h2
  have b1 := srt_left sB h3 h4
  exact ⟨by rw [sg_same fun k _ hk => r1 k (Or.inl hk)]; exact a1.1, by rw [r2]; exact b1.1, by rw [r3]; exact a1.2, by rw [sg_same fun k hk _ => r1 k (Or.inr hk)]; exact b1.2⟩
/-- A half with an empty run stands as it is. -/
theorem sym_idle {a s c : Nat} {d : Array A2} (h1 : a ≤ s) (h2 : s ≤ c) (s1 : Srt (sg d a s)) (s2 : Srt (sg d s c)) (h : ¬ (a < s ∧ s < c)) : Mg a c d d := by
  refine Mg.refl ?_
  rcases Nat.eq_or_lt_of_le h1 with rfl | h'
  · exact s2
  · obtain rfl : s = c := by omega
    exact s1
/-- With an empty run nothing is rotated. -/
theorem rot_idle {m s e : Nat} {d : Array A2} (h1 : s ≤ m) (h2 : m ≤ e) (h : ¬ (s < m ∧ m < e)) : rotL m (m - s) (e - m) d = d := by
  rw [rotL, if_pos (by omega)]
/-- All of it: what is found, rotated, and both halves. -/
theorem sym_all {a m b n s lo r mid : Nat} {d d1 d2 : Array A2} (hb : b ≤ d.size) (sA : Srt (sg d a m)) (sB : Srt (sg d m b)) (hn : n = mid + m) (hlo : a ≤ lo) (hls : lo ≤ s) (hsr : s ≤ r) (hrm : r ≤ m) (hrd : r ≤ mid) (hnb : n ≤ b + lo) (elo : lo = a ∨ n = b + lo) (er : r = m ∨ r = mid)
    (f1 : lo < s → ¬ kc d[n - s]!.1 d[s - 1]!.1 < 0) (f2 : s < r → kc d[n - 1 - s]!.1 d[s]!.1 < 0) (M1 : Mg a mid (rotL m (m - s) (n - s - m) d) d1) (M2 : Mg mid b d1 d2) : Mg a b d d2 := by
  obtain ⟨o1, o2⟩ := sym_found sA sB hlo hls hsr hrm (by omega) hnb elo (by omega) f1 f2
  exact sym_step (s := s) (e := n - s) (c := mid) (by omega) (by omega) (by omega) (by omega) (by omega) sA sB o1 o2 (by
    have := rot_sg (d := d) (s := s) (m := m) (e := n - s) (by omega) (by omega) (by omega)
    rwa [show s + (n - s - m) = mid by omega] at this) M1 M2
end Go.Proofs.YtigmhbgdnmkooaaDoor

/- slices.symMergeCmpFunc at pairs, by their keys, whole. -/
namespace Go.Proofs.YtigmhbgdnmkooaaDoor
open Go Go.RowKit Go.Lib Go.Sort
set_option linter.unusedVariables false

/-- What symMergeCmpFunc is to do, for all ranges of at most n. -/
def SymTo (n Z blk cap : Nat) (w0 : World) : Prop := ∀ (a m b : Nat) (dk : Array A2) (W : World), b - a ≤ n → a < m → m < b → b ≤ Z → dk.size = Z → SWK encA 4 w0 blk 0 dk W → Srt (sg dk a m) → Srt (sg dk m b) →
  Calls Tryd.prog 78 #[.slice (some ⟨blk, 0, none⟩) Z cap, .int .i64 a, .int .i64 m, .int .i64 b, .func (.func 41) #[] #[]] W fun e w' => e = .returned (.tuple #[]) ∧ ∃ d', Mg a b dk d' ∧ SWK encA 4 w0 blk 0 d' w'

set_option maxHeartbeats 16000000 in
set_option maxRecDepth 1000000 in
theorem sym_step_any (hK : ByK) (n Z blk cap : Nat) (d0 : Array A2) (w0 : World) (R : RowK encA 4 w0 blk 0 d0) (hs : d0.size = Z) (hsz : Z < 4611686018427387904) (ih : SymTo n Z blk cap w0) : SymTo (n + 1) Z blk cap w0 := by
  intro a m b d w hn ham hmb hb hz S sA sB
  by_cases h1 : m = a + 1
  · have := sym_one hK blk cap a m b d0 d w0 w R (by omega) S h1 (by omega) (by omega) (by omega) sB
    rwa [hz] at this
  by_cases h2 : b = m + 1
  · have := sym_two hK blk cap a m b d0 d w0 w R (by omega) S h2 (by omega) h1 (by omega) (by omega) sA
    rwa [hz] at this
  have e0 : ((m : Int) - (a : Int) == 1) = false := by simp; omega
  have ew0 : IntKind.i64.wrap ((m : Int) - (a : Int)) = (m : Int) - (a : Int) := by rw [IntKind.wrap_i64]; omega
  have e1 : ((b : Int) - (m : Int) == 1) = false := by simp; omega
  have ew1 : IntKind.i64.wrap ((b : Int) - (m : Int)) = (b : Int) - (m : Int) := by rw [IntKind.wrap_i64]; omega
  obtain ⟨mid, hmid⟩ : ∃ mid, (a + b) / 2 = mid := ⟨_, rfl⟩
  have emid : ((a : Int) + (b : Int)) / 2 = (mid : Int) := by omega
  obtain ⟨nn, hnn⟩ : ∃ nn, mid + m = nn := ⟨_, rfl⟩
  have enn : (mid : Int) + (m : Int) = (nn : Int) := by omega
  obtain ⟨p, hp⟩ : ∃ p, nn = p + 1 := ⟨nn - 1, by omega⟩
  have ep : (nn : Int) - 1 = (p : Int) := by omega
  have IH : Hid (SymTo n Z blk cap w0) := ih
  have HK : Hid ByK := hK
  have HR : Hid (RowK encA 4 w0 blk 0 d0 ∧ d0.size = Z) := ⟨R, hs⟩
  have S0 : Hid (SWK encA 4 w0 blk 0 d w) := S
  have HA : Hid (Srt (sg d a m) ∧ Srt (sg d m b) ∧ d.size = Z ∧ (a + b) / 2 = mid ∧ mid + m = nn ∧ nn = p + 1 ∧ b - a ≤ n + 1) := ⟨sA, sB, hz, hmid, hnn, hp, hn⟩
  have eg := enters_of Tryd.func41 (by kernel_rfl) rfl
  have am1 : a < mid := by omega
  have am2 : mid < b := by omega
  have bmid : mid < Z := by omega
  have bnn : nn < 9223372036854775807 := by omega
  clear R hs hz S sA sB ih hK hn hp hnn hmid h1 h2
  obtain ⟨lo, r, HL, hlr⟩ : ∃ lo r, Hid (a ≤ lo ∧ lo ≤ r ∧ r ≤ m ∧ r ≤ mid ∧ nn ≤ b + lo ∧ (lo = a ∨ nn = b + lo) ∧ (r = m ∨ r = mid)) ∧ ((mid < m ∧ lo = nn - b ∧ r = mid) ∨ (¬ mid < m ∧ lo = a ∧ r = m)) := by
    have := HA.out
    by_cases hgt : mid < m
    · exact ⟨nn - b, mid, by show _ ∧ _; omega, Or.inl ⟨hgt, rfl, rfl⟩⟩
    · exact ⟨a, m, by show _ ∧ _; omega, Or.inr ⟨hgt, rfl, rfl⟩⟩
  go_enter Tryd.func78, Tryd.ntmps78
  go_upto_if 140 with fail
  go_cut [20, 21] (fun x y wc => x = .int .i64 lo ∧ y = .int .i64 r ∧ wc = w)
  case first =>
    rcases hlr with ⟨hgt, e1', e2'⟩ | ⟨hgt, e1', e2'⟩
    · have hgI : (mid : Int) < (m : Int) := by omega
      have elo : (nn : Int) - (b : Int) = (lo : Int) := by have := HA.out; have := HL.out; omega
      have ewl : IntKind.i64.wrap ((nn : Int) - (b : Int)) = (nn : Int) - (b : Int) := by rw [IntKind.wrap_i64]; omega
      subst e2'
      go_wp2
      go_meet
      exact ⟨by rw [e1'], rfl, rfl⟩
    · have hgI : ¬ (mid : Int) < (m : Int) := by omega
      have hgB : decide ((mid : Int) < (m : Int)) = false := decide_eq_false hgI
      subst e1' e2'
      go_wp2
      go_meet
      exact ⟨rfl, rfl, rfl⟩
  case rest =>
    obtain ⟨rfl, rfl, rfl⟩ := hcut
    clear hlr
    go_wp2
    go_loopw [20, 21, 23] (fun x y z wr => ∃ (s t : Nat), lo ≤ s ∧ s ≤ t ∧ t ≤ r ∧ x = .int .i64 s ∧ y = .int .i64 t ∧ Hid (SWK encA 4 w0 blk 0 d wr ∧ (lo < s → ¬ kc d[nn - s]!.1 d[s - 1]!.1 < 0) ∧ (t < r → kc d[nn - 1 - t]!.1 d[t]!.1 < 0))) (fun x y _ _ => (RowKit.intOf y).toNat - (RowKit.intOf x).toNat)
    case atStart => exact ⟨lo, r, Nat.le_refl _, HL.out.2.1, Nat.le_refl _, by first | rfl | rw [elo], rfl, S0.out, fun h => by omega, fun h => by omega⟩
    case round =>
      clear S0 e0 ew0 e1 ew1 emid enn ep
      obtain ⟨s, t, hls, hst, htr, rfl, rfl, H⟩ := hrel
      have bsm : r ≤ m ∧ a ≤ lo := ⟨HL.out.2.2.1, HL.out.1⟩
      by_cases hlt : s < t
      · have hltI : (s : Int) < (t : Int) := by omega
        obtain ⟨h, hh⟩ : ∃ h, (s + t) / 2 = h := ⟨_, rfl⟩
        have he : ((s : Int) + (t : Int)) / 2 = (h : Int) := by omega
        have hih : s ≤ h := by omega
        have hhj : h < t := by omega
        have hhI : (h : Int) < (Z : Int) := by omega
        have hhO : (0 : Int) ≤ (h : Int) := by omega
        obtain ⟨g, hg⟩ : ∃ g, p - h = g := ⟨_, rfl⟩
        have HG : Hid (nn - 1 - h = g ∧ nn - (h + 1) = g ∧ g < Z ∧ h < Z) := by have := HA.out; have := HL.out; show _ ∧ _; omega
        have eg1 : (p : Int) - (h : Int) = (g : Int) := by have := HA.out; have := HL.out; omega
        have ew2 : IntKind.i64.wrap ((p : Int) - (h : Int)) = (p : Int) - (h : Int) := by have := HA.out; rw [IntKind.wrap_i64]; omega
        have eg2 : (nn : Int) - 1 - (h : Int) = (g : Int) := by have := HA.out; have := HL.out; omega
        have ew3 : IntKind.i64.wrap ((nn : Int) - 1 - (h : Int)) = (nn : Int) - 1 - (h : Int) := by have := HA.out; rw [IntKind.wrap_i64]; omega
        have hhp : (h : Int) ≤ (p : Int) := by omega
        have hhpn : h ≤ p := by omega
        have hpz : (p : Int) - (h : Int) < (Z : Int) := by have := HG.out; omega
        have en2 : ((p : Int) - (h : Int)).toNat = g := by omega
        have hgI2 : (g : Int) < (Z : Int) := by have := HG.out; omega
        have hgO : (0 : Int) ≤ (g : Int) := by omega
        obtain ⟨⟨x0, x1, x2, x3⟩, hX⟩ : ∃ q, d[g]! = q := ⟨_, rfl⟩
        obtain ⟨⟨y0, y1, y2, y3⟩, hY⟩ : ∃ q, d[h]! = q := ⟨_, rfl⟩
        have HX : Hid (∀ w', SWK encA 4 w0 blk 0 d w' → (w'.cell? ⟨blk, g * 4, none⟩ = some (.string x0) ∧ w'.cell? ⟨blk, g * 4 + 1, none⟩ = some (.int .i64 x1) ∧ w'.cell? ⟨blk, g * 4 + 2, none⟩ = some (.int .i64 x2) ∧ w'.cell? ⟨blk, g * 4 + 3, none⟩ = some (.string x3) ∧ w'.cell? ⟨blk, h * 4, none⟩ = some (.string y0) ∧ w'.cell? ⟨blk, h * 4 + 1, none⟩ = some (.int .i64 y1) ∧ w'.cell? ⟨blk, h * 4 + 2, none⟩ = some (.int .i64 y2) ∧ w'.cell? ⟨blk, h * 4 + 3, none⟩ = some (.string y3))) := fun w' hw => by
          have h1 := (swk_at hw HR.out.1 (by rw [HR.out.2, HA.out.2.2.1]) g (by rw [HA.out.2.2.1]; exact HG.out.2.2.1) hX).1
          have h2 := (swk_at hw HR.out.1 (by rw [HR.out.2, HA.out.2.2.1]) h (by rw [HA.out.2.2.1]; exact HG.out.2.2.2) hY).1
          exact ⟨h1.1, h1.2.1, h1.2.2.1, h1.2.2.2, h2.1, h2.2.1, h2.2.2.1, h2.2.2.2⟩
        have cK : ∀ W, SWK encA 4 w0 blk 0 d W → Calls Tryd.prog 41 #[atV (x0, x1, x2, x3), atV (y0, y1, y2, y3)] W fun e w' => e = .returned (.int .i64 (kc x0 y0)) ∧ SWK encA 4 w0 blk 0 d w' := fun W hW => HK.out (x0, x1, x2, x3) (y0, y1, y2, y3) w0 blk d W hW
        have s0 := H.out.1
        obtain ⟨c0, c1, c2, c3, e0, e1, e2, e3⟩ := HX.out _ s0
        have HXY : Hid (d[g]! = (x0, x1, x2, x3) ∧ d[h]! = (y0, y1, y2, y3)) := ⟨hX, hY⟩
        have hZb : h < 4611686018427387904 := by omega
        have hph0 : (0 : Int) ≤ (p : Int) - (h : Int) := by omega
        clear eg1 eg2 ew3 hgI2 hgO
        clear hX hY
        by_cases hk : kc x0 y0 < 0
        · as_aux_lemma =>
            have HF : Hid ((lo < s → ¬ kc d[nn - s]!.1 d[s - 1]!.1 < 0) ∧ (h < r → kc d[nn - 1 - h]!.1 d[h]!.1 < 0)) := ⟨H.out.2.1, fun _ => by rw [HG.out.1, HXY.out.1, HXY.out.2]; exact hk⟩
            clear H
            go_wp2_with fail
            go_region_held3 (fun w' => (w'.cell? ⟨blk, g * 4, none⟩ = some (.string x0) ∧ w'.cell? ⟨blk, g * 4 + 1, none⟩ = some (.int .i64 x1) ∧ w'.cell? ⟨blk, g * 4 + 2, none⟩ = some (.int .i64 x2) ∧ w'.cell? ⟨blk, g * 4 + 3, none⟩ = some (.string x3) ∧ w'.cell? ⟨blk, h * 4, none⟩ = some (.string y0) ∧ w'.cell? ⟨blk, h * 4 + 1, none⟩ = some (.int .i64 y1) ∧ w'.cell? ⟨blk, h * 4 + 2, none⟩ = some (.int .i64 y2) ∧ w'.cell? ⟨blk, h * 4 + 3, none⟩ = some (.string y3)) ∧ SWK encA 4 w0 blk 0 d w')
              (exact ⟨by first | (with_reducible assumption) | (simp [*]; done), by first | (with_reducible assumption) | exact s0.drew⟩)
              (first | (go_at_call 41; refine (cK _ ?_).mono ?_; (· first | assumption | (apply And.right; assumption)); rintro r1 w3 ⟨rfl, s3⟩; have mm := HX.out _ s3))
            have S3 : Hid _ := s3
            clear s3 mm
            go_wp2
            go_roundw
            case rel => exact ⟨s, h, hls, hih, by omega, rfl, rfl, S3.out, (fun h => Int.not_lt.2 (HF.out.1 h)), HF.out.2⟩
            case measure => simp [RowKit.intOf]; omega
        · as_aux_lemma =>
            have hkD : decide (kc x0 y0 < 0) = false := decide_eq_false hk
            have hkB : (!decide (kc x0 y0 < 0)) = true := by rw [hkD]; rfl
            have HF : Hid ((lo < h + 1 → ¬ kc d[nn - (h + 1)]!.1 d[h + 1 - 1]!.1 < 0) ∧ (t < r → kc d[nn - 1 - t]!.1 d[t]!.1 < 0)) := ⟨fun _ => by rw [HG.out.2.1, Nat.add_sub_cancel, HXY.out.1, HXY.out.2]; exact hk, H.out.2.2⟩
            clear H
            go_wp2_with fail
            go_region_held3 (fun w' => (w'.cell? ⟨blk, g * 4, none⟩ = some (.string x0) ∧ w'.cell? ⟨blk, g * 4 + 1, none⟩ = some (.int .i64 x1) ∧ w'.cell? ⟨blk, g * 4 + 2, none⟩ = some (.int .i64 x2) ∧ w'.cell? ⟨blk, g * 4 + 3, none⟩ = some (.string x3) ∧ w'.cell? ⟨blk, h * 4, none⟩ = some (.string y0) ∧ w'.cell? ⟨blk, h * 4 + 1, none⟩ = some (.int .i64 y1) ∧ w'.cell? ⟨blk, h * 4 + 2, none⟩ = some (.int .i64 y2) ∧ w'.cell? ⟨blk, h * 4 + 3, none⟩ = some (.string y3)) ∧ SWK encA 4 w0 blk 0 d w')
              (exact ⟨by first | (with_reducible assumption) | (simp [*]; done), by first | (with_reducible assumption) | exact s0.drew⟩)
              (first | (go_at_call 41; refine (cK _ ?_).mono ?_; (· first | assumption | (apply And.right; assumption)); rintro r1 w3 ⟨rfl, s3⟩; have mm := HX.out _ s3))
            have S3 : Hid _ := s3
            clear s3 mm
            go_wp2
            go_roundw
            case rel => exact ⟨h + 1, t, by omega, by omega, htr, by go_num, rfl, S3.out, fun g => by have := HF.out.1 g; simpa using this, HF.out.2⟩
            case measure => simp [RowKit.intOf]; omega
      · have hltI : ¬ (s : Int) < (t : Int) := by omega
        obtain rfl : s = t := by omega
        obtain ⟨en, hen⟩ : ∃ en, nn - s = en := ⟨_, rfl⟩
        have een : (nn : Int) - (s : Int) = (en : Int) := by have := HL.out; have := HA.out; omega
        have hfin := fun d1 d2 => sym_all (d := d) (d1 := d1) (d2 := d2) (a := a) (m := m) (b := b) (n := nn) (s := s) (lo := lo) (r := r) (mid := mid) (by rw [HA.out.2.2.1]; exact hb) HA.out.1 HA.out.2.1 HA.out.2.2.2.2.1.symm (by have := HL.out; omega) hls htr (by have := HL.out; omega) (by have := HL.out; omega) (by have := HL.out; have := HA.out; omega) (by have := HL.out; have := HA.out; omega) (by have := HL.out; omega) (fun h => Int.not_lt.2 (by have := H.out.2.1 h; omega)) H.out.2.2
        have q1 : a ≤ s ∧ s ≤ m ∧ m ≤ en ∧ en ≤ b ∧ mid = s + (en - m) ∧ s ≤ mid ∧ mid ≤ en := by have := HL.out; have := HA.out; omega
        have hrot := rot_sg (d := d) (s := s) (m := m) (e := en) q1.2.1 q1.2.2.1 (by have := HA.out; omega)
        have hrun := sym_runs (c := mid) q1.1 q1.2.1 q1.2.2.1 q1.2.2.2.1 q1.2.2.2.2.1 HA.out.1 HA.out.2.1 (by rw [← q1.2.2.2.2.1] at hrot; exact hrot)
        rw [hen] at hfin
        have hidle : ¬ (s < m ∧ m < en) → rotL m (m - s) (en - m) d = d := rot_idle q1.2.1 q1.2.2.1
        obtain ⟨RR, hRR⟩ : ∃ RR, rotL m (m - s) (en - m) d = RR := ⟨_, rfl⟩
        rw [hRR] at hfin hrun hrot hidle
        have HF : Hid ((∀ d1 d2, Mg a mid RR d1 → Mg mid b d1 d2 → Mg a b d d2) ∧ (Srt (sg RR a s) ∧ Srt (sg RR s mid) ∧ Srt (sg RR mid en) ∧ Srt (sg RR en b)) ∧ RR.size = Z ∧ (¬ (s < m ∧ m < en) → RR = d)) := ⟨hfin, hrun, hrot.1.trans HA.out.2.2.1, hidle⟩
        have HQ : Hid (a ≤ s ∧ s ≤ m ∧ m ≤ en ∧ en ≤ b ∧ mid = s + (en - m) ∧ s ≤ mid ∧ mid ≤ en) := q1
        have c1 : s < m → m < en → ∀ W, SWK encA 4 w0 blk 0 d W → Calls Tryd.prog 82 #[.slice (some ⟨blk, 0, none⟩) Z cap, .int .i64 s, .int .i64 m, .int .i64 en, .func (.func 41) #[] #[]] W fun e w' => e = .returned (.tuple #[]) ∧ SWK encA 4 w0 blk 0 RR w' := fun g1 g2 W hW => by
          have := rotate_any blk cap s m en d0 d w0 W (.func (.func 41) #[] #[]) HR.out.1 (by rw [HR.out.2, HA.out.2.2.1]) hW g1 g2 (by rw [HA.out.2.2.1]; have := HQ.out; omega) (by rw [HA.out.2.2.1]; exact hsz)
          rw [HA.out.2.2.1, hRR] at this; exact this
        have C1 : Hid _ := c1
        have S1 : Hid (SWK encA 4 w0 blk 0 d wr) := H.out.1
        clear H hfin hrun hrot hidle hRR q1 hen c1
        go_upto_region 39 with fail
        go_cut [185] (fun x wc => x = .bool (decide (s < m ∧ m < en)) ∧ wc = wr)
        case first =>
          as_aux_lemma =>
            by_cases p1 : s < m
            · have p1I : (s : Int) < (m : Int) := by omega
              by_cases p2 : m < en
              · have p2I : (m : Int) < (en : Int) := by omega
                go_wp2
                go_meet
                exact ⟨by rw [decide_eq_true ⟨p1, p2⟩], rfl⟩
              · have p2I : ¬ (m : Int) < (en : Int) := by omega
                have p2B : decide ((m : Int) < (en : Int)) = false := decide_eq_false p2I
                go_wp2
                go_meet
                exact ⟨by rw [decide_eq_false (fun h => p2 h.2)], rfl⟩
            · have p1I : ¬ (s : Int) < (m : Int) := by omega
              have p1B : decide ((s : Int) < (m : Int)) = false := decide_eq_false p1I
              go_wp2
              go_meet
              exact ⟨by rw [decide_eq_false (fun h => p1 h.1)], rfl⟩
        case rest =>
          obtain ⟨rfl, rfl⟩ := hcut
          go_upto_if 185 with fail
          go_cut [24] (fun x wc => x = .int .i64 en ∧ Hid (SWK encA 4 w0 blk 0 RR wc))
          case first =>
            as_aux_lemma =>
              by_cases p : s < m ∧ m < en
              · rw [decide_eq_true p]
                have c1 := C1.out p.1 p.2
                go_wp2_with fail
                refine (c1 _ (by first | exact S1.out | exact S1.out.drew)).mono ?_; rintro r5 w5 ⟨rfl, s5⟩
                have S5 : Hid _ := s5
                clear s5 c1
                go_wp2
                go_meet
                exact ⟨rfl, S5.out⟩
              · rw [decide_eq_false p]
                have S5 := S1.out
                rw [← HF.out.2.2.2 p] at S5
                have S5 : Hid _ := S5
                go_wp2
                go_meet
                exact ⟨rfl, S5.out⟩
          case rest =>
            obtain ⟨rfl, S5⟩ := hcut
            clear S1 C1
            obtain ⟨wS, rfl⟩ : ∃ W, W = wc := ⟨_, rfl⟩
            go_upto_region 41 with fail
            go_cut [199] (fun x wc => x = .bool (decide (a < s ∧ s < mid)) ∧ wc = wS)
            case first =>
              as_aux_lemma =>
                by_cases p1 : a < s
                · have p1I : (a : Int) < (s : Int) := by omega
                  by_cases p2 : s < mid
                  · have p2I : (s : Int) < (mid : Int) := by omega
                    go_wp2
                    go_meet
                    exact ⟨by rw [decide_eq_true ⟨p1, p2⟩], rfl⟩
                  · have p2I : ¬ (s : Int) < (mid : Int) := by omega
                    have p2B : decide ((s : Int) < (mid : Int)) = false := decide_eq_false p2I
                    go_wp2
                    go_meet
                    exact ⟨by rw [decide_eq_false (fun h => p2 h.2)], rfl⟩
                · have p1I : ¬ (a : Int) < (s : Int) := by omega
                  have p1B : decide ((a : Int) < (s : Int)) = false := decide_eq_false p1I
                  go_wp2
                  go_meet
                  exact ⟨by rw [decide_eq_false (fun h => p1 h.1)], rfl⟩
            case rest =>
              obtain ⟨rfl, rfl⟩ := hcut
              go_upto_if 199 with fail
              go_cut [24] (fun x wc => x = .int .i64 en ∧ ∃ d7, Hid (Mg a mid RR d7) ∧ Hid (SWK encA 4 w0 blk 0 d7 wc))
              case first =>
                as_aux_lemma =>
                  by_cases p : a < s ∧ s < mid
                  · rw [decide_eq_true p]
                    have c2 := fun W hW => IH.out a s mid RR W (by have := HA.out; omega) p.1 p.2 (by omega) HF.out.2.2.1 hW HF.out.2.1.1 HF.out.2.1.2.1
                    go_wp2_with fail
                    refine (c2 _ (by first | exact S5.out | exact S5.out.drew)).mono ?_; rintro r7 w7 ⟨rfl, d7, g7, s7⟩
                    have S7 : Hid _ := s7
                    have G7 : Hid _ := g7
                    clear s7 g7 c2
                    go_wp2
                    go_meet
                    exact ⟨rfl, d7, G7.out, S7.out⟩
                  · rw [decide_eq_false p]
                    have G7 : Hid (Mg a mid RR RR) := sym_idle (s := s) HQ.out.1 HQ.out.2.2.2.2.2.1 HF.out.2.1.1 HF.out.2.1.2.1 p
                    go_wp2
                    go_meet
                    exact ⟨rfl, RR, G7.out, S5.out⟩
              case rest =>
                obtain ⟨rfl, d7, G7, S7⟩ := hcut
                clear S5
                by_cases p5 : mid < en
                · have p5I : (mid : Int) < (en : Int) := by omega
                  by_cases p6 : en < b
                  · have p6I : (en : Int) < (b : Int) := by omega
                    have c3 := fun W hW => IH.out mid en b d7 W (by have := HA.out; omega) p5 p6 hb (G7.out.size.trans HF.out.2.2.1) hW (by rw [sg_same fun k hk _ => G7.out.rest k (Or.inr hk)]; exact HF.out.2.1.2.2.1) (by rw [sg_same fun k hk _ => G7.out.rest k (Or.inr (by omega))]; exact HF.out.2.1.2.2.2)
                    go_wp2_with fail
                    refine (c3 _ (by first | exact S7.out | exact S7.out.drew)).mono ?_; rintro r9 w9 ⟨rfl, d9, g9, s9⟩
                    have S9 : Hid _ := s9
                    have G9 : Hid _ := g9
                    clear s9 g9 c3
                    go_wp2
                    go_end0
                    exact ⟨rfl, _, HF.out.1 _ _ G7.out G9.out, S9.out⟩
                  · have p6I : ¬ (en : Int) < (b : Int) := by omega
                    have p6B : decide ((en : Int) < (b : Int)) = false := decide_eq_false p6I
                    have g9 : Mg mid b d7 d7 := sym_idle (s := en) HQ.out.2.2.2.2.2.2 HQ.out.2.2.2.1 (by rw [sg_same fun k hk _ => G7.out.rest k (Or.inr hk)]; exact HF.out.2.1.2.2.1) (by rw [sg_same fun k hk _ => G7.out.rest k (Or.inr (by have := HQ.out; omega))]; exact HF.out.2.1.2.2.2) (fun h => p6 h.2)
                    have G9 : Hid _ := g9
                    clear g9
                    go_wp2
                    go_end0
                    exact ⟨rfl, _, HF.out.1 _ _ G7.out G9.out, S7.out⟩
                · have p5I : ¬ (mid : Int) < (en : Int) := by omega
                  have p5B : decide ((mid : Int) < (en : Int)) = false := decide_eq_false p5I
                  have g9 : Mg mid b d7 d7 := sym_idle (s := en) HQ.out.2.2.2.2.2.2 HQ.out.2.2.2.1 (by rw [sg_same fun k hk _ => G7.out.rest k (Or.inr hk)]; exact HF.out.2.1.2.2.1) (by rw [sg_same fun k hk _ => G7.out.rest k (Or.inr (by have := HQ.out; omega))]; exact HF.out.2.1.2.2.2) (fun h => p5 h.1)
                  have G9 : Hid _ := g9
                  clear g9
                  go_wp2
                  go_end0
                  exact ⟨rfl, _, HF.out.1 _ _ G7.out G9.out, S7.out⟩
theorem sym_any (hK : ByK) (Z blk cap : Nat) (d0 : Array A2) (w0 : World) (R : RowK encA 4 w0 blk 0 d0) (hs : d0.size = Z) (hsz : Z < 4611686018427387904) : ∀ n, SymTo n Z blk cap w0
  | 0 => fun a m b _ _ h h1 h2 => by omega
  | n + 1 => sym_step_any hK n Z blk cap d0 w0 R hs hsz (sym_any hK Z blk cap d0 w0 R hs hsz n)
end Go.Proofs.YtigmhbgdnmkooaaDoor
