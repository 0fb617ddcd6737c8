/- What vellumref03.Has answers: the first pair of a key. What vellumref03.whole, Over and Between answer. What vellumref03.Join answers of two patches: the one over the other. The document's answers of the attrs' calls as joins. What vellumref03.Between answers. What vellumref03.Compose, Apply, Diff, Invert and Transform answer. vellumhand.Attrs and Kept. vellumhand.OverAttrs: a list of the call's own is written over and grown: what that changes. vellumhand.Attrs: where the copy lies; what writing over a list leaves of others. build: Pieces: each piece's list lies in blocks of its own. What Each's function hands over, for whatever loop body. vellumspare.Spoil: writes over operations and their lists, and nothing else. A piece's own list and what kind its dynamic type is; a list between two marks, written over. A region that draws its order, in a round of a range over a function: the plain kit's walk of it (held at S) serves: its laws, and those by which it is walked by hand. The body of WalkEach's loop over walk.Each, walked once. -/
import Derived.Test.YtpmblhofeabppaaGreatDoorMgd
import Derived.Test.YtpmblhofeabppaaGreatDoorAx
import Derived.Deep.DeepCutAuto
import Derived.Test.YtpmblhofeabppaaGreatDoorRk1
import Derived.Test.YtpmblhofeabppaaGreatDoorSpo
import Derived.ArgAppend
import Derived.RangeFuncNested
import Derived.RangeFuncBound
import Derived.RangeFuncCalls
import Derived.RangeFuncLeaves
import Derived.Shelf.Abstract
import Derived.Shelf.RegionOpen
import Derived.WalkKit
import Derived.OwnWalkIn
import Derived.TacticsInMore
import Derived.LoopNIn
import Derived.LoopIn
import Derived.Deep.RegionHeld3
import Derived.OrdersIn

/- What vellumref03.Has answers: the first pair of a key. -/
namespace Go.Proofs.YtpmblhofeabppaaGreatDoor
open Go Go.RowKit Go.Lib
set_option linter.unusedVariables false
end Go.Proofs.YtpmblhofeabppaaGreatDoor

/- What vellumref03.whole, Over and Between answer. -/
namespace Go.Proofs.YtpmblhofeabppaaGreatDoor
open Go Go.RowKit Go.Lib
set_option linter.unusedVariables false

def wholeL (L : List A2) : List A2 := L.filter fun q => !(q.2.1 == 0)
def overL (A : List A2) (first : Bool) (B : List A2) : List A2 := B.filter fun q => !first || !(look q.1 A).isSome
def betL (A B : List A2) (J : List A2) : List A2 := J.filterMap fun x => if (look x.1 A).getD z0 = (look x.1 B).getD z0 then none else some (x.1, (look x.1 B).getD z0)
theorem filter_step {p : A2 → Bool} {L : List A2} {k : Nat} {q : A2} (hq : L[k]? = some q) : (L.take (k + 1)).filter p = (L.take k).filter p ++ (if p q then [q] else []) := by
  rw [List.take_add_one, hq, List.filter_append]
  simp only [Option.toList, List.filter_cons, List.filter_nil]
theorem filterMap_step {p : A2 → Option A2} {L : List A2} {k : Nat} {q : A2} (hq : L[k]? = some q) : (L.take (k + 1)).filterMap p = (L.take k).filterMap p ++ (p q).toList := by
  rw [List.take_add_one, hq, List.filterMap_append]
  congr 1

end Go.Proofs.YtpmblhofeabppaaGreatDoor

/- What vellumref03.Join answers of two patches: the one over the other. -/
namespace Go.Proofs.YtpmblhofeabppaaGreatDoor
open Go Go.RowKit Go.Lib
set_option linter.unusedVariables false

theorem jt_b {x y : A2} {A B : List A2} (h : kc y.1 x.1 < 0) : jn (chC true) (x :: A) (y :: B) = y :: jn (chC true) (x :: A) B := by
  have hs := kc_swap x.1 y.1
  show joinL _ (x :: A) (y :: B) = _
  rw [joinL, if_neg (by omega), if_neg (by omega)]; rfl
theorem jt_a {x y : A2} {A B : List A2} (h : kc x.1 y.1 < 0) : jn (chC true) (x :: A) (y :: B) = x :: jn (chC true) A (y :: B) := by
  show joinL _ (x :: A) (y :: B) = _
  rw [joinL, if_pos h]; rfl
theorem jt_a0 {x : A2} {A : List A2} : jn (chC true) (x :: A) [] = x :: jn (chC true) A [] := by
  show joinL _ (x :: A) [] = _
  rw [joinL]; rfl
theorem jt_eq {x y : A2} {A B : List A2} (e : y.1 = x.1) (hA : Up (x :: A)) : jn (chC true) (x :: A) (y :: B) = jn (chC true) A (y :: B) := by
  have h0 : kc x.1 y.1 = 0 := by rw [e]; exact kc_self _
  show joinL _ (x :: A) (y :: B) = _
  rw [joinL, if_neg (by omega), if_pos h0]
  cases A with
  | nil =>
    show _ = joinL _ [] (y :: B)
    rw [joinL, e]; rfl
  | cons z A =>
    have hz : kc x.1 z.1 < 0 := List.rel_of_pairwise_cons hA (List.mem_cons_self ..)
    have hzy : kc y.1 z.1 < 0 := by rw [e]; exact hz
    have hs := kc_swap z.1 y.1
    show _ = joinL _ (z :: A) (y :: B)
    rw [joinL, if_neg (by omega), if_neg (by omega), e]; rfl
theorem drop_cons {L : List A2} {k n : Nat} {q : A2} (hn : L.length = n) (hk : k < n) (hq : L[k]? = some q) : L.drop k = q :: L.drop (k + 1) := by
  rw [List.drop_eq_getElem_cons (by omega)]
  rw [List.getElem?_eq_getElem (by omega)] at hq
  rw [Option.some.inj hq]

end Go.Proofs.YtpmblhofeabppaaGreatDoor

/- The document's answers of the attrs' calls as joins. -/
namespace Go.Proofs.YtpmblhofeabppaaGreatDoor
open Go Go.RowKit Go.Lib
set_option linter.unusedVariables false

def fm (g : A2 → Option P3) (L : List A2) : List A2 := L.filterMap fun x => (g x).map fun v => (x.1, v)
theorem fm_mem {g : A2 → Option P3} {L : List A2} {q : A2} (h : q ∈ fm g L) : ∃ x ∈ L, x.1 = q.1 ∧ g x = some q.2 := by
  obtain ⟨x, hx, e⟩ := List.mem_filterMap.1 h
  obtain ⟨v, hv, rfl⟩ := Option.map_eq_some_iff.1 e
  exact ⟨x, hx, rfl, hv⟩
theorem up_fm {g : A2 → Option P3} {L : List A2} (h : Up L) : Up (fm g L) := by
  unfold fm
  refine List.Pairwise.filterMap _ (R := fun x y : A2 => kc x.1 y.1 < 0) (S := fun x y : A2 => kc x.1 y.1 < 0) (fun a a' hr b hb b' hb' => ?_) h
  obtain ⟨v, hv, rfl⟩ := Option.map_eq_some_iff.1 hb
  obtain ⟨v', hv', rfl⟩ := Option.map_eq_some_iff.1 hb'
  exact hr
theorem look_fm {g : A2 → Option P3} (k : ByteArray) : ∀ {L : List A2}, Up L → look k (fm g L) = (look k L).bind fun v => g (k, v)
  | [], _ => rfl
  | (j, u) :: L, h => by
    have ih := look_fm (g := g) k (L := L) (List.Pairwise.of_cons h)
    have hc : fm g ((j, u) :: L) = ((g (j, u)).map fun v => (j, v)).toList ++ fm g L := by
      unfold fm
      rw [List.filterMap_cons]
      cases g (j, u) <;> rfl
    rw [hc, look]
    by_cases e : j = k
    · subst e
      rw [if_pos rfl]
      have h0 : look j L = none := look_above fun q hq => List.rel_of_pairwise_cons h hq
      rw [h0] at ih
      cases e2 : g (j, u) with
      | none => simp only [Option.map_none, Option.toList_none, List.nil_append, ih]; exact e2.symm
      | some v => show look j ((j, v) :: fm g L) = _; rw [look, if_pos rfl]; exact e2.symm
    · rw [if_neg (show ¬ (j, u).1 = k from e), ← ih]
      cases e2 : g (j, u) with
      | none => rfl
      | some v => show look k ((j, v) :: fm g L) = _; rw [look, if_neg (show ¬ (j, v).1 = k from e)]
theorem filter_fm (p : A2 → Bool) (L : List A2) : L.filter p = fm (fun q => if p q then some q.2 else none) L := by
  unfold fm
  induction L with
  | nil => rfl
  | cons q L ih =>
    rw [List.filter_cons, List.filterMap_cons, ih]
    by_cases h : p q = true <;> simp [h]
theorem whole_eq {a b : List A2} (ha : Up a) (hb : Up b) : wholeL (jn (chC true) a b) = jn (chC false) a b := by
  unfold wholeL
  rw [filter_fm]
  refine up_ext (up_fm (up_join _ ha hb)) (up_join _ ha hb) fun k => ?_
  rw [look_fm k (up_join _ ha hb), look_join _ ha hb, look_join _ ha hb]
  cases look k a <;> cases look k b <;> simp [at2, fOf, chC]
theorem over_eq {a b : List A2} (first : Bool) (ha : Up a) (hb : Up b) : overL a first b = jn (chT first) a b := by
  unfold overL
  rw [filter_fm]
  refine up_ext (up_fm hb) (up_join _ ha hb) fun k => ?_
  rw [look_fm k hb, look_join _ ha hb]
  cases first <;> cases e : look k a <;> cases look k b <;> simp [at2, fOf, chT, e]
theorem bet_eq {a b : List A2} (ha : Up a) (hb : Up b) : betL a b (jn (chC true) a b) = jn chD a b := by
  have e : ∀ J, betL a b J = fm (fun x => if (look x.1 a).getD z0 = (look x.1 b).getD z0 then none else some ((look x.1 b).getD z0)) J := fun J => by
    unfold betL fm
    congr 1
    funext x
    by_cases h : (look x.1 a).getD z0 = (look x.1 b).getD z0 <;> simp [h]
  rw [e]
  refine up_ext (up_fm (up_join _ ha hb)) (up_join _ ha hb) fun k => ?_
  rw [look_fm k (up_join _ ha hb), look_join _ ha hb, look_join _ ha hb]
  have hs : ∀ p q : P3, samP p q = decide (p = q) := fun p q => by
    by_cases h : p = q
    · rw [h, samP_self]; simp
    · rw [samP_ne h]; simp [h]
  cases ea : look k a <;> cases eb : look k b <;> simp [at2, fOf, chC, chD, hs, ea, eb]
theorem und_eq {s p : List A2} (hs : Up s) (hp : Up p) (ns : NoNull s) (pn : ∀ q ∈ p, q.2.1 = 0 → q.2 = z0) : jn chD (jn (chC false) s p) s = jn chI p s := by
  refine up_ext (up_join _ (up_join _ hs hp) hs) (up_join _ hp hs) fun k => ?_
  rw [look_join _ (up_join _ hs hp) hs, look_join _ hs hp, look_join _ hp hs]
  cases es : look k s with
  | none =>
    cases ep : look k p with
    | none => simp [at2]
    | some v =>
      by_cases h1 : v.1 = 0
      · have hv : v = z0 := pn (k, v) (look_mem ep) h1
        subst hv
        simp [at2, fOf, chC, chI, samP_self]; simp [z0]
      · simp [at2, fOf, chC, chI, chD, h1]
  | some u =>
    have hu := nn_look ns es
    cases ep : look k p with
    | none => simp [at2, fOf, chC, chI, chD, hu, samP_self]
    | some v =>
      by_cases h1 : v.1 = 0
      · have hv : v = z0 := pn (k, v) (look_mem ep) h1
        subst hv
        simp [at2, fOf, chC, chI, chD, h1]
      · simp [at2, fOf, chC, chI, chD, h1]
end Go.Proofs.YtpmblhofeabppaaGreatDoor

/- What vellumref03.Between answers. -/
namespace Go.Proofs.YtpmblhofeabppaaGreatDoor
open Go Go.RowKit Go.Lib
set_option linter.unusedVariables false

/-- Between two marks the memory stands. -/
structure Mid (c : Nat) (u w : World) : Prop where
  size : u.heap.size ≤ w.heap.size
  cell : ∀ g i, c < g → g < u.heap.size → w.cell? ⟨g, i, none⟩ = u.cell? ⟨g, i, none⟩
theorem Mid.refl (c : Nat) (u : World) : Mid c u u := ⟨Nat.le_refl _, fun _ _ _ _ => rfl⟩
theorem Mid.below {c : Nat} {u w w' : World} (h : Mid c u w) (b : Below w.heap.size w w') : Mid c u w' :=
  ⟨Nat.le_trans h.size b.size, fun g i h1 h2 => (b.cell (Nat.lt_of_lt_of_le h2 h.size)).trans (h.cell g i h1 h2)⟩
theorem Mid.alloc {c : Nat} {u w : World} (h : Mid c u w) (o : Obj) : Mid c u (w.alloc o) := h.below ((Below.refl _ _).alloc (Nat.le_refl _) o)
theorem Mid.grown {c : Nat} {u w w' : World} {row : Option Nat} (h : Mid c u w) (g : w.grownBy w' row) (hr : ∀ r, row = some r → r = c ∨ u.heap.size ≤ r) : Mid c u w' :=
  ⟨Nat.le_trans h.size g.size, fun k i h1 h2 => (World.cell?_of_block (a := ⟨k, i, none⟩) (g.block k (Nat.lt_of_lt_of_le h2 h.size) (fun e => by have := hr k e.symm; omega))).trans (h.cell k i h1 h2)⟩
theorem PairAt.mid {c : Nat} {u w : World} {b o : Nat} {q : A2} (h : PairAt u b o q) (m : Mid c u w) (hb : c < b) : PairAt w b o q :=
  ⟨(m.cell _ _ hb h.lt).trans h.c0, (m.cell _ _ hb h.lt).trans h.c1, (m.cell _ _ hb h.lt).trans h.c2, (m.cell _ _ hb h.lt).trans h.c3⟩

end Go.Proofs.YtpmblhofeabppaaGreatDoor

/- What vellumref03.Compose, Apply, Diff, Invert and Transform answer. -/
namespace Go.Proofs.YtpmblhofeabppaaGreatDoor
open Go Go.RowKit Go.Lib
set_option linter.unusedVariables false

/-- A nil slice is empty and has no room. -/
abbrev NilZ (v : Value) : Prop := ∀ m c, v = .slice none m c → m = 0 ∧ c = 0
theorem wholeL_len (L : List A2) : (wholeL L).length ≤ L.length := List.length_filter_le _ _

end Go.Proofs.YtpmblhofeabppaaGreatDoor

/- vellumhand.Attrs and Kept. -/
namespace Go.Proofs.YtpmblhofeabppaaGreatDoor
open Go Go.RowKit Go.Lib
set_option linter.unusedVariables false

abbrev s2 : A2 := (⟨#[114, 111, 111, 109]⟩, 0, 0, ⟨#[]⟩)
/-- A copy with two more behind its end. -/
def HandA (w : World) (v : Value) (A : List A2) : Prop :=
  NilZ v ∧ RowA w v A ∧ (A ≠ [] → ∃ p c, v = .slice p A.length c ∧ A.length + 2 ≤ c ∧ RowA w (.slice p (A.length + 2) c) (A ++ [s1, s2]))
theorem HandA.below {w w' : World} {v : Value} {A : List A2} (h : HandA w v A) (b : Below w.heap.size w w') : HandA w' v A :=
  ⟨h.1, h.2.1.below b, fun hA => by obtain ⟨p, c, h1, h2, h3⟩ := h.2.2 hA; exact ⟨p, c, h1, h2, h3.below b⟩⟩
end Go.Proofs.YtpmblhofeabppaaGreatDoor

/- vellumhand.OverAttrs: a list of the call's own is written over and grown: what that changes. -/
namespace Go.Proofs.YtpmblhofeabppaaGreatDoor
open Go Go.RowKit Go.Lib
set_option linter.unusedVariables false

theorem cell_atv {w : World} {g : Nat} {cur : Array Value} {e : TypeId} (h : w.heap[g]? = some (.cells cur e (0, 0))) (j : Nat) (hj : j < cur.size) : ∃ u, w.cell? ⟨g, j, none⟩ = some u :=
  ⟨cur[j], by simp [World.cell?, h, hj]⟩
theorem out_set4v {lo hi : Nat} {w W : World} (h : Out lo hi w W) {g : Nat} (h1 : lo ≤ g) (h2 : g < hi) (a b c d : Nat) (u0 u1 u2 u3 : Value) :
    Out lo hi w ((((W.setCell ⟨g, a, none⟩ u0).setCell ⟨g, b, none⟩ u1).setCell ⟨g, c, none⟩ u2).setCell ⟨g, d, none⟩ u3) :=
  (((h.setCell g a u0 h1 h2).setCell g b u1 h1 h2).setCell g c u2 h1 h2).setCell g d u3 h1 h2
theorem out_setCellsv {lo hi : Nat} {w : World} {g : Nat} (h1 : lo ≤ g) (h2 : g < hi) : ∀ (vs : List Value) (o : Nat) (W : World), Out lo hi w W → Out lo hi w (W.setCells g o vs)
  | [], _, _, h => h
  | v :: r, o, W, h => by
    rw [World.setCells]
    exact out_setCellsv h1 h2 r (o + 1) _ (h.setCell g o v h1 h2)
/-- A store into a block that came later. -/
theorem Out.setFar {lo hi : Nat} {w w' : World} (h : Out lo hi w w') (g j : Nat) (u : Value) (h1 : w.heap.size ≤ g) : Out lo hi w (w'.setCell ⟨g, j, none⟩ u) :=
  ⟨h.os, h.tape, h.output, by simpa using h.size, fun k hk ho => (Below.heap_setCell _ _ _ _ (by show k ≠ g; omega)).trans (h.block k hk ho), fun k cur e fz hc hk => by
    obtain ⟨c, h3, h4⟩ := h.shape k cur e fz hc hk
    have hkg : k ≠ g := by have := (Array.getElem?_eq_some_iff.1 hc).1; omega
    exact ⟨c, (Below.heap_setCell _ _ _ _ hkg).trans h3, h4⟩⟩
theorem out_setCellsFar {lo hi : Nat} {w : World} {g : Nat} (h1 : w.heap.size ≤ g) : ∀ (vs : List Value) (o : Nat) (W : World), Out lo hi w W → Out lo hi w (W.setCells g o vs)
  | [], _, _, h => h
  | v :: r, o, W, h => by
    rw [World.setCells]
    exact out_setCellsFar h1 r (o + 1) _ (h.setFar g o v h1)
theorem out_grownv {lo hi : Nat} {u w w' : World} (h : Out lo hi u w) (g : w.grownBy w' none) : Out lo hi u w' :=
  h.trans ⟨g.os, g.tape, g.output, g.size, fun k hk _ => g.block k hk (by simp), fun k cur e fz hc _ => ⟨cur, (g.block k (Array.getElem?_eq_some_iff.1 hc).1 (by simp)).trans hc, rfl⟩⟩

/-- A list that may be written, in blocks between two marks or in new ones: its shape alone. -/
def LiR (w : World) (L H B : Nat) (v : Value) (n : Nat) : Prop :=
  (v = .slice none 0 0 ∧ n = 0) ∨ ∃ (g cap : Nat) (cur : Array Value), v = .slice (some ⟨g, 0, none⟩) n cap ∧ ((L ≤ g ∧ g < H) ∨ B ≤ g) ∧ w.heap[g]? = some (.cells cur 45 (0, 0)) ∧ n ≤ cap ∧ cur.size = cap * 4
theorem LiR.val {w : World} {L H B n : Nat} {v : Value} (h : LiR w L H B v n) : ∃ p c, v = .slice p n c := by
  rcases h with ⟨h, h0⟩ | ⟨g, cap, cur, h, _⟩
  · exact ⟨none, 0, by rw [h, h0]⟩
  · exact ⟨_, _, h⟩
theorem LiR.below {w w' : World} {L H B n : Nat} {v : Value} (h : LiR w L H B v n) (b : Below w.heap.size w w') : LiR w' L H B v n := by
  rcases h with h | ⟨g, cap, cur, h1, h2, h3, h4⟩
  · exact Or.inl h
  · exact Or.inr ⟨g, cap, cur, h1, h2, (b.block g (Array.getElem?_eq_some_iff.1 h3).1).trans h3, h4⟩
/-- append(such a list, one pair). -/
theorem wpList_append_res {w u : World} {ops : Array Oper} {rest : List Oper} {o : Oper} {a : Act} {Q : Exit → Act → World → Prop} (hgd : o.guard = none) (s x : Operand)
    (ho : o.op = .call { callee := .builtin .append, args := #[s, x], argTypes := #[38, 38] })
    (L H : Nat) (v : Value) (n : Nat) (hs : a.eval s = v) (hv : LiR w L H u.heap.size v n) (hu : Out L H u w)
    (b c : Nat) (q : A2) (hx : a.eval x = .slice (some ⟨b, 0, none⟩) 1 c) (hM : PairAt w b 0 q) (h63 : n ≤ 2097152)
    (h : ∀ v' w', LiR w' L H u.heap.size v' (n + 1) → Out L H u w' → wpList Tryz.prog ops Q rest (a.put o.dst v') w') : wpList Tryz.prog ops Q (o :: rest) a w := by
  obtain ⟨i, z, hi, hz, hz1, hz2, hz3⟩ := infoAt
  have hnew : ∀ (j : Nat) (u : Value), (cellsA [q])[j]? = some u → w.cell? ((⟨b, 0, none⟩ : Addr).add j) = some u := fun j u hu => by
    obtain ⟨k, q', hq, hh⟩ := cellsA_inv [q] j u hu
    have hk : k = 0 := by rcases k with _ | k; rfl; simp at hq
    subst hk
    obtain rfl : q = q' := by simpa using hq
    obtain ⟨h0, h1, h2, h3⟩ := hM
    rw [Addr.add_lit]
    rcases hh with ⟨rfl, rfl⟩ | ⟨rfl, rfl⟩ | ⟨rfl, rfl⟩ | ⟨rfl, rfl⟩
    · exact h0
    · exact h1
    · exact h2
    · exact h3
  have fin : ∀ (v' : Value) (w' : World) (xs : List Value), w'.ownsRow w.heap.size 45 4 v' (n + 1) xs → Out L H u w' → wpList Tryz.prog ops Q rest (a.put o.dst v') w' := fun v' w' xs hw ho' => by
    refine h _ _ ?_ ho'
    rcases hw.2 with ⟨_, h0⟩ | ⟨g, cap, cur, h1, h2, h3, h4, h5, h6, _⟩
    · omega
    · exact Or.inr ⟨g, cap, cur, h1, Or.inr (Nat.le_trans hu.size h2), h3, h4, h6⟩
  rcases hv with ⟨rfl, rfl⟩ | ⟨g, cap, cur, rfl, h2, h4, h5, h6⟩
  · exact wpList_append_grows w hgd s x _ ho 45 i z 4 48 Tryz.underlying38 hi hz hz1 hz2 hz3 (by decide) none 0 0 [] hs (fun _ => ⟨rfl, rfl⟩) rfl (fun b hb => (by cases hb)) ⟨b, 0, none⟩ 1 c (cellsA [q]) hx rfl hnew (cellsA_one _) (by decide) (by unfold maxLen; omega) (by omega) (fun v' w' r1 r2 => fin v' w' _ r1 (out_grownv hu r2))
  · refine wpList_append_arg w hgd s x _ ho 45 i z 4 48 Tryz.underlying38 hi hz hz1 hz2 hz3 (by decide) g 0 n cap (cur.toList.take (n * 4)) hs (by rw [List.length_take, Array.length_toList, h6]; omega) (fun j u hu => ?_) ⟨b, 0, none⟩ 1 c (cellsA [q]) hx rfl hnew (cellsA_one _) (fun hr j hj => ?_) (by unfold maxLen; omega) (by omega) (fun hr => ?_) (fun hr v' w' r1 r2 => fin v' w' _ r1 (out_grownv hu r2))
    · have hj := (List.getElem?_eq_some_iff.1 hu).1
      rw [List.getElem?_take] at hu
      split at hu
      · rw [Nat.zero_add]
        simp only [World.cell?, h4]
        simpa using hu
      · cases hu
    · have hj' : j < 4 := by simpa [cellsA] using hj
      rw [Nat.zero_add]
      exact ⟨by obtain ⟨u, hu⟩ := cell_atv h4 (n * 4 + j) (by omega); rw [hu]; rfl, frozen_of_row w g _ cur _ h4⟩
    · obtain ⟨cur', hc', hs'⟩ := (out_setCellsv (Nat.le_refl g) (Nat.lt_succ_self g) (cellsA [q]) (0 + n * 4) w (Out.refl g (g + 1) w)).shape g cur _ _ h4 (Nat.lt_succ_self g)
      refine h _ _ (Or.inr ⟨g, cap, cur', rfl, h2, hc', hr, by rw [hs', h6]⟩) ?_
      rcases h2 with ⟨h2, h3⟩ | h2
      · exact out_setCellsv h2 h3 _ _ _ hu
      · exact out_setCellsFar h2 _ _ _ hu

abbrev qOver (i : Int) : A2 := (⟨#[111, 118, 101, 114]⟩, 2, i, ⟨#[]⟩)
abbrev qMore : A2 := (⟨#[109, 111, 114, 101]⟩, 0, 0, ⟨#[]⟩)

end Go.Proofs.YtpmblhofeabppaaGreatDoor

/- vellumhand.Attrs: where the copy lies; what writing over a list leaves of others. -/
namespace Go.Proofs.YtpmblhofeabppaaGreatDoor
open Go Go.RowKit Go.Lib
set_option linter.unusedVariables false

/-- A copy with two more behind its end, in a block between two marks. -/
def HandO (w : World) (lo hi : Nat) (v : Value) (A : List A2) : Prop :=
  (A = [] ∧ v = .slice none 0 0) ∨ ∃ g c, A ≠ [] ∧ v = .slice (some ⟨g, 0, none⟩) A.length c ∧ g < hi ∧ OwnA w lo (.slice (some ⟨g, 0, none⟩) (A ++ [s1, s2]).length c) (A ++ [s1, s2])
/-- A row of the call's own in a block between two marks. -/
structure InA (w : World) (lo hi : Nat) (v : Value) (A : List A2) : Prop where
  own : OwnA w lo v A
  top : ∀ k, v.ownBlock = some k → k < hi
theorem InA.new {w : World} {B : Nat} {v : Value} {A : List A2} (h : OwnA w B v A) : InA w B w.heap.size v A :=
  ⟨h, fun k hk => by obtain ⟨_, cur, hc⟩ := owns_block h k hk; exact (Array.getElem?_eq_some_iff.1 hc).1⟩
theorem InA.below {w w' : World} {lo hi : Nat} {v : Value} {A : List A2} (h : InA w lo hi v A) (b : Below w.heap.size w w') : InA w' lo hi v A := ⟨owns_below h.own b, h.top⟩
theorem InA.out {w w' : World} {lo hi a b : Nat} {v : Value} {A : List A2} (h : InA w lo hi v A) (u : Out a b w w') (d : hi ≤ a ∨ b ≤ lo) : InA w' lo hi v A :=
  ⟨owns_same h.own fun k hk => by
    obtain ⟨h1, cur, h2⟩ := owns_block h.own k hk
    have := h.top k hk
    exact u.block k (Array.getElem?_eq_some_iff.1 h2).1 (by omega), h.top⟩
theorem InA.row {w : World} {lo hi : Nat} {v : Value} {A : List A2} (h : InA w lo hi v A) : RowA w v A := own_rowA h.own
theorem LiR.of_own {w : World} {lo hi B : Nat} {v : Value} {A : List A2} (h : InA w lo hi v A) : LiR w lo hi B v A.length := by
  rcases h.own.2 with h1 | ⟨g, cap, cur, h1, h2, h3, h4, h5, h6, _⟩
  · exact Or.inl h1
  · exact Or.inr ⟨g, cap, cur, h1, Or.inl ⟨h2, h.top g (by rw [h1]; rfl)⟩, h3, h4, h6⟩
theorem HandO.below {w w' : World} {lo hi : Nat} {v : Value} {A : List A2} (h : HandO w lo hi v A) (b : Below w.heap.size w w') : HandO w' lo hi v A := by
  rcases h with h | ⟨g, c, h1, h2, h3, h4⟩
  · exact Or.inl h
  · exact Or.inr ⟨g, c, h1, h2, h3, owns_below h4 b⟩
theorem HandO.out {w w' : World} {lo hi a b : Nat} {v : Value} {A : List A2} (h : HandO w lo hi v A) (u : Out a b w w') (d : hi ≤ a ∨ b ≤ lo) : HandO w' lo hi v A := by
  rcases h with h | ⟨g, c, h1, h2, h3, h4⟩
  · exact Or.inl h
  · exact Or.inr ⟨g, c, h1, h2, h3, ((InA.mk h4 (fun k hk => by simp only [Value.ownBlock, Option.some.injEq] at hk; omega) : InA w lo hi _ _).out u d).own⟩
theorem HandO.hand {w : World} {lo hi : Nat} {v : Value} {A : List A2} (h : HandO w lo hi v A) : HandA w v A := by
  rcases h with ⟨rfl, rfl⟩ | ⟨g, c, h1, rfl, h3, h4⟩
  · exact ⟨fun m c h => by simp only [Value.slice.injEq] at h; exact ⟨h.2.1.symm, h.2.2.symm⟩, RowA.nil _ _ _, fun h => absurd rfl h⟩
  · have hr := own_rowA h4
    have hl : (A ++ [s1, s2]).length = A.length + 2 := by simp
    rw [hl] at hr
    obtain ⟨p', c', e', hc', hr'⟩ := hr
    simp only [Value.slice.injEq] at e'
    obtain ⟨rfl, hL, rfl⟩ := e'
    rw [hl] at hc'
    refine ⟨fun m c h => by simp at h, ⟨_, _, rfl, by omega, fun j x hx => hr' j x (by rw [List.getElem?_append_left (List.getElem?_eq_some_iff.1 hx).1]; exact hx)⟩, fun _ => ⟨_, _, rfl, hc', ⟨_, _, by rw [hl], by rw [hl]; exact hc', hr'⟩⟩⟩
theorem HandO.li {w : World} {lo hi B : Nat} {v : Value} {A : List A2} (h : HandO w lo hi v A) : LiR w lo hi B v A.length := by
  rcases h with ⟨rfl, rfl⟩ | ⟨g, c, h1, rfl, h3, h4⟩
  · exact Or.inl ⟨rfl, rfl⟩
  · rcases h4.2 with ⟨_, h5⟩ | ⟨g', cap, cur, h5, h6, h7, h8, h9, h10, _⟩
    · simp at h5
    · simp only [Value.slice.injEq, Option.some.injEq, Addr.mk.injEq, and_true, true_and] at h5
      obtain ⟨rfl, -, rfl⟩ := h5
      exact Or.inr ⟨g, c, cur, rfl, Or.inl ⟨h6, h3⟩, h7, by simp at h8; omega, h10⟩
end Go.Proofs.YtpmblhofeabppaaGreatDoor

/- build: Pieces: each piece's list lies in blocks of its own. -/
namespace Go.Proofs.YtpmblhofeabppaaGreatDoor
open Go Go.RowKit Go.Lib
set_option linter.unusedVariables false

/-- Marks that rise from lo on, the first k + 1 of them up to hi. -/
structure MonZ (lo hi k : Nat) (Z : Nat → Nat) : Prop where
  mono : ∀ j, Z j ≤ Z (j + 1)
  zero : Z 0 = lo
  top : Z k ≤ hi
theorem MonZ.up {lo hi hi' k : Nat} {Z : Nat → Nat} (h : MonZ lo hi k Z) (hh : hi ≤ hi') : MonZ lo hi' k Z := ⟨h.mono, h.zero, Nat.le_trans h.top hh⟩
theorem MonZ.le {lo hi k : Nat} {Z : Nat → Nat} (h : MonZ lo hi k Z) : ∀ {i j : Nat}, i ≤ j → Z i ≤ Z j := fun {i j} hij => by
  induction j with
  | zero => obtain rfl : i = 0 := by omega
            exact Nat.le_refl _
  | succ j ih =>
    rcases Nat.lt_or_ge i (j + 1) with h1 | h1
    · exact Nat.le_trans (ih (by omega)) (h.mono j)
    · obtain rfl : i = j + 1 := by omega
      exact Nat.le_refl _
/-- Pieces, the list of the k-th between the k-th mark and the next. -/
def PieZ (w : World) (Z : Nat → Nat) (P : List Value) (E : List Op5) : Prop := P.length = E.length ∧ ∀ (k : Nat) (x : Value) (e : Op5), P[k]? = some x → E[k]? = some e → ∃ s, x = pieceQ e s ∧ InA w (Z k) (Z (k + 1)) s e.A
theorem InA.keep {w w' : World} {lo hi : Nat} {v : Value} {A : List A2} (h : InA w lo hi v A) (k : KeepA w w') : InA w' lo hi v A := ⟨keepA_own h.own k, h.top⟩
theorem PieZ.keep {w w' : World} {Z : Nat → Nat} {P : List Value} {E : List Op5} (h : PieZ w Z P E) (b : KeepA w w') : PieZ w' Z P E :=
  ⟨h.1, fun k x e hx he => by obtain ⟨s, h1, h2⟩ := h.2 k x e hx he; exact ⟨s, h1, h2.keep b⟩⟩
theorem PieZ.below {w w' : World} {Z : Nat → Nat} {P : List Value} {E : List Op5} (h : PieZ w Z P E) (b : Below w.heap.size w w') : PieZ w' Z P E := h.keep (keepA_below b)
theorem PieZ.snoc {w : World} {Z : Nat → Nat} {P : List Value} {E : List Op5} {x s : Value} {e : Op5} {lo l0 k : Nat} (hZ : MonZ l0 lo k Z) (h : PieZ w Z P E) (hk : P.length = k) (hx : x = pieceQ e s) (hs : OwnA w lo s e.A) (hlw : lo ≤ w.heap.size) :
    MonZ l0 w.heap.size (k + 1) (fun j => if j ≤ k then Z j else w.heap.size) ∧ PieZ w (fun j => if j ≤ k then Z j else w.heap.size) (P ++ [x]) (E ++ [e]) := by
  have hkw : ∀ j, j ≤ k → Z j ≤ w.heap.size := fun j hj => Nat.le_trans (hZ.le hj) (Nat.le_trans hZ.top hlw)
  refine ⟨⟨fun j => ?_, ?_, ?_⟩, by rw [List.length_append, List.length_append, h.1]; rfl, fun j y f hy hf => ?_⟩
  · by_cases h1 : j + 1 ≤ k
    · rw [if_pos (by omega), if_pos h1]; exact hZ.mono j
    · rw [if_neg h1]
      by_cases h2 : j ≤ k
      · rw [if_pos h2]; exact hkw j h2
      · rw [if_neg h2]; exact Nat.le_refl _
  · rw [if_pos (Nat.zero_le _)]; exact hZ.zero
  · rw [if_neg (by omega)]; exact Nat.le_refl _
  · have hj : j < P.length + 1 := by have := (List.getElem?_eq_some_iff.1 hy).1; rw [List.length_append] at this; exact this
    rcases Nat.lt_or_ge j P.length with h1 | h1
    · rw [List.getElem?_append_left h1] at hy
      rw [List.getElem?_append_left (by rw [← h.1]; exact h1)] at hf
      simp only []
      rw [if_pos (show j ≤ k by omega), if_pos (show j + 1 ≤ k by omega)]
      exact h.2 j y f hy hf
    · obtain rfl : j = P.length := by omega
      rw [List.getElem?_append_right (Nat.le_refl _), Nat.sub_self] at hy
      rw [List.getElem?_append_right (by rw [h.1]; exact Nat.le_refl _), h.1, Nat.sub_self] at hf
      simp only [List.getElem?_cons_zero, Option.some.injEq] at hy hf
      subst hy; subst hf
      simp only []
      rw [if_pos (show P.length ≤ k by omega), if_neg (show ¬ P.length + 1 ≤ k by omega)]
      refine ⟨s, hx, own_weaken hs (by rw [hk]; exact hZ.top), fun j hj => ?_⟩
      obtain ⟨_, cur, hc⟩ := owns_block hs j hj
      exact (Array.getElem?_eq_some_iff.1 hc).1
set_option maxHeartbeats 4000000 in
set_option maxRecDepth 100000 in
theorem piecesZ_any {B1 B2 : Nat} (v : Value) (E : List Op5) (w : World) (h : DelV w B1 B2 v E) (hg : ∀ o ∈ E, opE o = 0) (hA : ∀ o ∈ E, o.A.length ≤ 2097152) (hl : E.length ≤ 4194304) :
    Calls Tryz.prog 8 #[v] w fun e w' => ∃ v', e = .returned v' ∧ (∃ P, OwnI w' w.heap.size v' P ∧ ∃ Z, MonZ w.heap.size w'.heap.size E.length Z ∧ PieZ w' Z P E) ∧ Below w.heap.size w w' := by
  obtain ⟨q, pv, PL, rfl, _, hq, hrow, hpie⟩ := h
  have c0 : w.cell? ⟨q, 0, none⟩ = some pv := by rw [cell_of_heap hq]; rfl
  obtain ⟨p, cap, rfl, hrd⟩ := del_read (q := q) hrow hpie
  have HV : Hid (∀ k, k < E.length → ∃ ga e s, p = some ⟨ga, 0, none⟩ ∧ E[k]? = some e ∧ w.cell? ⟨ga, k, none⟩ = some (pieceQ e s) ∧ OwnA w B2 s e.A) := hrd
  have HG : Hid (∀ o ∈ E, opE o = 0 ∧ o.A.length ≤ 2097152) := fun o ho => ⟨hg o ho, hA o ho⟩
  obtain ⟨n, hn⟩ : ∃ n, E.length = n := ⟨_, rfl⟩
  have HN : Hid (E.length = n) := hn
  rw [hn] at c0 hl HV
  clear hq hrow hpie hrd hg hA hn
  go_enter Tryz.func8, Tryz.ntmps8
  go_wp2_with (at_make; refine wpList_make_pi2 _ rfl _ _ rfl w.heap.size .i64 .i64 _ n rfl rfl rfl (by omega) (Nat.le_refl _) ?_; intro v0 w1 hown hgr; have hb1 : Below w.heap.size w w1 := (Below.refl _ _).grown hgr (Nat.le_refl _) (fun k hk => by cases hk); have c1 := (hb1.cell (lt_of_cell c0)).trans c0; clear hgr)
  go_loopw [3, 17] (fun al i wr => ∃ (k : Nat) (D : List Value), k ≤ n ∧ i = .int .i64 k ∧ D.length = k ∧ OwnI wr w.heap.size al D ∧ Hid (∃ Z, MonZ w.heap.size wr.heap.size k Z ∧ PieZ wr Z D (E.take k)) ∧ Below w.heap.size w wr) (fun _ i _ => n - (RowKit.intOf i).toNat)
  case atStart => exact ⟨0, [], Nat.zero_le _, rfl, rfl, hown, ⟨fun _ => w.heap.size, ⟨fun _ => Nat.le_refl _, rfl, hb1.size⟩, by rw [List.take_zero]; exact ⟨rfl, fun k x e h => by simp at h⟩⟩, hb1⟩
  case round =>
    clear hown hb1 c1
    obtain ⟨k, D, hk, rfl, hDl, hown, hsp, hbw⟩ := hrel
    by_cases hlt : k < n
    · have hltI : (k : Int) < n := by omega
      obtain ⟨ga, e, s, rfl, he, hc, hs⟩ := HV.out k hlt
      have c2 := (hbw.cell (lt_of_cell hc)).trans hc
      have hs2 := owns_below hs hbw
      obtain ⟨hg1, hA1⟩ := HG.out e (List.mem_of_getElem? he)
      have HT : Hid (E.take (k + 1) = E.take k ++ [e]) := by show _ = _; rw [List.take_add_one, he]; rfl
      have hge : Hid (∀ j, u3.ownBlock = some j → w.heap.size ≤ j) := fun j hj => (owns_block hown j hj).1
      have HO : Hid (OwnI wr w.heap.size u3 D) := hown
      have hlen : D.length ≤ 8388608 := by omega
      have hlz : w.heap.size ≤ wr.heap.size := hbw.size
      have cO := ownP_any e s wr hg1 (own_RN hs2) hA1
      obtain ⟨u, x, hux⟩ := pieceQ_if e s
      have hq := fun s' => pieceQ_if e s'
      obtain ⟨PQ, hPQ⟩ : ∃ f : Value → Value, pieceQ e = f := ⟨_, rfl⟩
      have HPQ : Hid (pieceQ e = PQ) := hPQ
      rw [hPQ] at cO hux hq
      rw [hPQ] at c2
      rw [hux] at c2 cO
      have HSP : Hid _ := hsp.out
      clear he hc hs hs2 hown hsp hg1 hA1 hux hPQ
      go_wp2_with fail
      refine cO.mono ?_; rintro r w5 ⟨s', rfl, own5, hb5⟩
      obtain ⟨u', x', hux'⟩ := hq s'
      have HU : Hid (PQ s' = .iface u' x') := hux'
      rw [hux']
      have bw5 : Below w.heap.size w w5 := hbw.trans (hb5.mono hlz)
      have ba : Below w5.heap.size w5 (w5.alloc (.cells #[.iface u' x'] 34)) := (Below.refl _ _).alloc (Nat.le_refl _) _
      have hu6 : (w5.alloc (.cells #[.iface u' x'] 34)).cell? ⟨w5.heap.size, 0, none⟩ = some (.iface u' x') := by simp
      have HO7 : Hid (OwnI (w5.alloc (.cells #[.iface u' x'] 34)) w.heap.size u3 D) := owns_below (owns_below HO.out hb5) ba
      have HP7 : Hid (∃ Z, MonZ w.heap.size (w5.alloc (.cells #[.iface u' x'] 34)).heap.size (k + 1) Z ∧ PieZ (w5.alloc (.cells #[.iface u' x'] 34)) Z (D ++ [.iface u' x']) (E.take (k + 1))) := by
        show ∃ Z, _
        rw [HT.out]
        obtain ⟨Z, hZ, hP⟩ := HSP.out
        have hlk : D.length = k := hDl
        obtain ⟨a1, a2⟩ := PieZ.snoc (lo := wr.heap.size) (s := s') (x := .iface u' x') (e := e) hZ ((hP.below hb5).below ba) hlk (by rw [HPQ.out, HU.out]) (owns_below own5 ba) (Nat.le_trans hb5.size ba.size)
        exact ⟨_, a1, a2⟩
      have bw7 := bw5.trans (ba.mono bw5.size)
      clear own5 hb5 bw5 ba HO HT cO c2 hux' hq HSP
      go_wp2_with (at_builtin; refine wpList_append_piAt rfl (.tmp 21) (.tmp 24) rfl w.heap.size u3 D rfl HO7.out w5.heap.size 1 (.iface u' x') rfl hu6 rfl hlen bw7.size ?_; intro v8 w8 own8 gr8 hat8; have hsp8 : Hid (∃ Z, MonZ w.heap.size w8.heap.size (k + 1) Z ∧ PieZ w8 Z _ _) := (by obtain ⟨Z, h1, h2⟩ := HP7.out; exact ⟨Z, h1.up gr8.size, h2.keep (keepA_grownI HO7.out gr8)⟩); have b8 := bw7.grown gr8 bw7.size (fun j hj => hge.out j hj); have HO8 : Hid (OwnI w8 w.heap.size v8 _) := own8; clear own8 gr8 hat8 HO7 HP7 hu6)
      go_roundw
      case rel => exact ⟨k + 1, _, by omega, by go_num, by simp [hDl], HO8.out, hsp8, b8⟩
      case measure => simp [RowKit.intOf]; omega
    · have hltI : ¬ (k : Int) < n := by omega
      have hE : E.take k = E := List.take_of_length_le (by rw [HN.out]; omega)
      have hkn : k = n := by omega
      rw [hE] at hsp; have hsp := hsp.out
      have HX : Hid (∃ P, OwnI wr w.heap.size u3 P ∧ ∃ Z, MonZ w.heap.size wr.heap.size E.length Z ∧ PieZ wr Z P E) := by obtain ⟨Z, h1, h2⟩ := hsp; exact ⟨D, hown, Z, by rw [HN.out, ← hkn]; exact h1, h2⟩
      clear hown hsp
      go_wp2
      go_ret
      exact ⟨u3, rfl, HX.out, hbw⟩
end Go.Proofs.YtpmblhofeabppaaGreatDoor

/- What Each's function hands over, for whatever loop body. -/
namespace Go.Proofs.YtpmblhofeabppaaGreatDoor
open Go Go.RowKit Go.Lib Go.Shelf
set_option linter.unusedVariables false
attribute [local go_sem] Oper.semAt_some

/-- A delta in a box. -/
def BoxD (w : World) (x : Nat) (B1 B2 : Nat) (E : List Op5) : Prop := ∃ v, w.cell? ⟨x, 0, none⟩ = some v ∧ DelV w B1 B2 v E
theorem BoxD.below {w w' : World} {x B1 B2 : Nat} {E : List Op5} (h : BoxD w x B1 B2 E) (b : Below w.heap.size w w') : BoxD w' x B1 B2 E := by
  obtain ⟨v, h1, h2⟩ := h
  exact ⟨v, (b.cell (lt_of_cell h1)).trans h1, h2.below b⟩
theorem each7_call {B1 B2 : Nat} (v : Value) (E : List Op5) (w : World) (h : DelV w B1 B2 v E) :
    Calls Tryz.prog 7 #[v] w fun r w' => ∃ x, r = .returned (.func (.func 23) #[] #[.pointer (some ⟨x, 0, none⟩)]) ∧ BoxD w' x B1 B2 E ∧ w.heap.size ≤ x ∧ Below w.heap.size w w' := by
  have bA : Below w.heap.size w (w.alloc (.cells #[v] 25)) := (Below.refl _ _).alloc (Nat.le_refl _) _
  have HD : Hid (DelV (w.alloc (.cells #[v] 25)) B1 B2 v E) := h.below bA
  obtain ⟨q, pv, PL, rfl, _⟩ := h
  go_enter Tryz.func7, Tryz.ntmps7
  go_wp2
  go_ret
  exact ⟨_, rfl, ⟨_, by simp, HD.out⟩, Nat.le_refl _, bA⟩

/-- A piece that is handed over, the blocks among which its list lies. -/
abbrev PZ : Type := Value × Nat × Nat
abbrev encZ (x : PZ) : Array Value := #[x.1]
def GZ (E : List Op5) (B0 : Nat) (pre : List PZ) (x : PZ) (W : World) : Prop := ∃ e s, E[pre.length]? = some e ∧ x.1 = pieceQ e s ∧ InA W x.2.1 x.2.2 s e.A ∧ B0 ≤ x.2.1 ∧ x.2.2 ≤ W.heap.size
/-- What a round keeps: the pieces, and all lists but the one that was handed over. -/
structure KZ (pre : List PZ) (x : PZ) (A A' : World) : Prop where
  size : A.heap.size ≤ A'.heap.size
  pie : ∀ (k : Nat) (cs : Array Value), A.heap[k]? = some (.cells cs 34 (0, 0)) → A'.heap[k]? = some (.cells cs 34 (0, 0))
  att : ∀ (k : Nat) (cs : Array Value), A.heap[k]? = some (.cells cs 45 (0, 0)) → (k < x.2.1 ∨ x.2.2 ≤ k) → A'.heap[k]? = some (.cells cs 45 (0, 0))
theorem ina_same {w w' : World} {lo hi : Nat} {v : Value} {A : List A2} (h : InA w lo hi v A) (hk : ∀ (k : Nat) (cs : Array Value), w.heap[k]? = some (.cells cs 45 (0, 0)) → lo ≤ k → k < hi → w'.heap[k]? = some (.cells cs 45 (0, 0))) : InA w' lo hi v A := by
  obtain ⟨h1, h2⟩ := h
  refine ⟨owns_same h1 fun k e => ?_, h2⟩
  obtain ⟨b1, cs, b2⟩ := owns_block h1 k e
  rw [b2]
  exact hk k cs b2 b1 (h2 k e)
theorem GZ.bk {E : List Op5} {B0 B : Nat} {pre : List PZ} {x : PZ} {A A' : World} (h : GZ E B0 pre x A) (k : Bk7 B A A') : GZ E B0 pre x A' := by
  obtain ⟨e, s, h1, h2, h3, h4, h5⟩ := h
  exact ⟨e, s, h1, h2, ina_same h3 fun j cs hj _ _ => k.kept j _ hj (.inr rfl), h4, Nat.le_trans h5 k.size⟩
theorem KZ.bk {B : Nat} {pre : List PZ} {x : PZ} {A A' C C' : World} (k1 : Bk7 B A A') (h : KZ pre x A' C) (k2 : Bk7 B C C') : KZ pre x A C' :=
  ⟨Nat.le_trans k1.size (Nat.le_trans h.size k2.size), fun k cs hk => k2.kept k _ (h.pie k cs (k1.kept k _ hk (.inr rfl))) (.inr rfl), fun k cs hk ho => k2.kept k _ (h.att k cs (k1.kept k _ hk (.inr rfl)) ho) (.inr rfl)⟩
set_option maxHeartbeats 4000000 in
set_option maxRecDepth 100000 in
theorem each7_seq (E : List Op5) (w0 : World) (x B1 B2 : Nat) (hT : BoxD w0 x B1 B2 E) (hg : ∀ o ∈ E, opE o = 0) (hA : ∀ o ∈ E, o.A.length ≤ 2097152) (hl : E.length ≤ 4194304) (n : Nat) (hn : 2 ≤ n) :
    SeqG Fence.wide n Tryz.prog 23 #[.pointer (some ⟨x, 0, none⟩)] encZ (fun _ => False) (GZ E w0.heap.size) KZ (fun xs => xs.length = E.length) w0 := fun l J Jx W hW hJ hJx hY h0 => by
  obtain ⟨v, hx, hd⟩ := hT
  have c0 : W.cell? ⟨x, 0, none⟩ = some v := (hW.cell (lt_of_cell hx)).trans hx
  have cP := piecesZ_any v E W (hd.below hW) hg hA hl
  have hz0 : w0.heap.size ≤ W.heap.size := hW.size
  obtain ⟨m, hm⟩ : ∃ m, E.length = m := ⟨_, rfl⟩
  have HM : Hid (E.length = m) := hm
  have HJ : Hid (∀ p W1 W2, J p W1 → Below W1.heap.size W1 W2 → J p W2) := fun p W1 W2 h1 h2 => hJ p W1 W2 h1 (It7.of_below h2)
  have HY : Hid (∀ pre x W1, J pre W1 → GZ E w0.heap.size pre x W1 → YieldAt Fence.wide (n - 1) Tryz.prog l (encZ x) W1 fun e W' =>
      (e = .returned (.bool true) ∧ J (pre ++ [x]) W' ∧ KZ pre x W1 W') ∨ (e = .returned (.bool false) ∧ Jx (pre ++ [x]) W')) := hY
  rw [hm] at hl ⊢
  clear hY hJ hJx hx hd hg hA hW hm
  refine callsIn_of_wp Tryz.func23 rfl trivial ?_ rfl
  simp only [Tryz.ntmps23, List.size_toArray, List.length_cons, List.length_nil, Nat.reduceAdd, Nat.reduceSub, Array.replicate_succ, Array.replicate_zero, List.push_toArray, List.append_toArray, List.nil_append, List.cons_append]
  gi_wp2
  refine ⟨trivial, (fun _ => Nat.le_trans (by decide) hn), (callsIn_wide.2 cP).mono ?_⟩
  rintro r w2 ⟨v', rfl, ⟨P, own, Z, hZ, hP⟩, hb2⟩
  have hPE : P.length = m := hP.1.trans HM.out
  obtain ⟨p, cap, hv⟩ := own_slice own
  have H2 : Hid (OwnI w2 W.heap.size v' P ∧ ∀ (j : Nat) (x : Value) (e : Op5), 0 ≤ j → P[j]? = some x → E[j]? = some e → ∃ s, x = pieceQ e s ∧ InA w2 (Z j) (Z (j + 1)) s e.A) := ⟨own, fun j x e _ h1 h2 => hP.2 j x e h1 h2⟩
  have HZ : Hid (MonZ W.heap.size w2.heap.size m Z ∧ w0.heap.size ≤ W.heap.size) := (by rw [HM.out] at hZ; exact ⟨hZ, hz0⟩)
  have HPL : Hid (P.length = m) := hPE
  have hJ2 := HJ.out _ _ _ h0 hb2
  rw [hPE] at hv
  subst hv
  have hN : Hid (2 ≤ n) := hn
  clear cP c0 own hZ hP hb2 h0 hPE hz0 hn
  gi_wp2
  gi_loopw [4, 8] (fun _ i wr => ∃ (k : Nat) (xs : List PZ), k ≤ m ∧ i = .int .i64 (k : Nat) ∧ xs.length = k ∧ J xs wr ∧ w2.heap.size ≤ wr.heap.size ∧ Hid (OwnI wr W.heap.size (.slice p m cap) P ∧ ∀ (j : Nat) (x : Value) (e : Op5), k ≤ j → P[j]? = some x → E[j]? = some e → ∃ s, x = pieceQ e s ∧ InA wr (Z j) (Z (j + 1)) s e.A)) (fun _ i _ => m - (RowKit.intOf i).toNat)
  case atStart => exact ⟨0, [], Nat.zero_le _, rfl, rfl, hJ2, Nat.le_refl _, H2⟩
  case round =>
    clear hJ2 H2
    obtain ⟨k, xs, hk, rfl, hxs, hJk, hsz, H⟩ := hrel
    by_cases hlt : k < m
    · have hltI : (k : Int) < (m : Int) := by omega
      obtain ⟨gP, cP, xv, hv', _, hxv, hcx⟩ := own_cell H.out.1 k (by rw [HPL.out]; exact hlt)
      simp only [Value.slice.injEq] at hv'
      obtain ⟨rfl, -, rfl⟩ := hv'
      obtain ⟨e, he⟩ : ∃ e, E[k]? = some e := ⟨_, List.getElem?_eq_getElem (by rw [HM.out]; exact hlt)⟩
      obtain ⟨s, hxs', hin⟩ := H.out.2 k xv e (Nat.le_refl _) hxv he
      have hG : GZ E w0.heap.size xs (xv, Z k, Z (k + 1)) wr := ⟨e, s, by rw [hxs]; exact he, hxs', hin, by
        have := HZ.out.1.le (Nat.zero_le k); rw [HZ.out.1.zero] at this; have := HZ.out.2; show _ ≤ Z k; omega, by
        have := HZ.out.1.le (show k + 1 ≤ m from hlt); have := HZ.out.1.top; show Z (k + 1) ≤ _; omega⟩
      have hYk := HY.out xs (xv, Z k, Z (k + 1)) wr hJk hG
      obtain ⟨u, y, hux⟩ := pieceQ_if e s
      rw [hux] at hxs'
      subst hxs'
      have HQ : Hid (xs.length = k ∧ k + 1 ≤ m ∧ w2.heap.size ≤ wr.heap.size) := ⟨hxs, hlt, hsz⟩
      obtain ⟨fn, tm, asg, bo, hy, hR⟩ := hYk
      clear hJk hxv he hin hG hux hxs hk hlt hsz
      gi_wp2
      refine ⟨(fun _ => Nat.le_trans (by decide) hN.out), hR.mono ?_⟩
      rintro e' W3 (⟨rfl, hJ3, hk3⟩ | ⟨rfl, hJx3⟩)
      · have H3 : Hid (OwnI W3 W.heap.size (.slice (some ⟨gP, 0, none⟩) m cap) P ∧ ∀ (j : Nat) (x : Value) (e : Op5), k + 1 ≤ j → P[j]? = some x → E[j]? = some e → ∃ s, x = pieceQ e s ∧ InA W3 (Z j) (Z (j + 1)) s e.A) := by
          refine ⟨owns_same H.out.1 fun b hb => ?_, fun j x e' hj h1 h2 => ?_⟩
          · obtain ⟨_, cs, hcs⟩ := owns_block H.out.1 b hb
            rw [hcs]; exact hk3.pie b cs hcs
          · obtain ⟨s', e1, e2⟩ := H.out.2 j x e' (by omega) h1 h2
            exact ⟨s', e1, ina_same e2 fun b cs hb hlo _ => hk3.att b cs hb (.inr (Nat.le_trans (HZ.out.1.le hj) hlo))⟩
        have HS3 : Hid (w2.heap.size ≤ W3.heap.size) := Nat.le_trans HQ.out.2.2 hk3.size
        clear hk3 H
        gi_wp2
        go_roundw
        case rel => exact ⟨k + 1, xs ++ [(.iface u y, Z k, Z (k + 1))], HQ.out.2.1, by go_num, by rw [List.length_append, HQ.out.1]; rfl, hJ3, HS3.out, H3⟩
        case measure => simp [RowKit.intOf]; have := HQ.out.2.1; omega
      · gi_wp2
        refine bodyPost_ret (results_none rfl _ _ _) rfl ?_
        exact ⟨⟨_, rfl⟩, .inr ⟨_, hJx3⟩⟩
    · have hltI : ¬ (k : Int) < (m : Int) := by omega
      have hkm : xs.length = m := by omega
      clear H
      gi_wp2
      go_end0
      exact ⟨⟨_, rfl⟩, .inl ⟨xs, hkm, hJk⟩⟩
end Go.Proofs.YtpmblhofeabppaaGreatDoor

/- vellumspare.Spoil: writes over operations and their lists, and nothing else. -/
namespace Go.Proofs.YtpmblhofeabppaaGreatDoor
open Go Go.RowKit Go.Lib
set_option linter.unusedVariables false

theorem cell_at {w : World} {g : Nat} {cur : Array Value} {e : TypeId} (h : w.heap[g]? = some (.cells cur e (0, 0))) (j : Nat) (hj : j < cur.size) : ∃ u, w.cell? ⟨g, j, none⟩ = some u :=
  ⟨cur[j], by simp [World.cell?, h, hj]⟩
theorem out_set4 {lo hi : Nat} {w W : World} (h : Out lo hi w W) {g : Nat} (h1 : lo ≤ g) (h2 : g < hi) (a b c d : Nat) (u0 u1 u2 u3 : Value) :
    Out lo hi w ((((W.setCell ⟨g, a, none⟩ u0).setCell ⟨g, b, none⟩ u1).setCell ⟨g, c, none⟩ u2).setCell ⟨g, d, none⟩ u3) :=
  (((h.setCell g a u0 h1 h2).setCell g b u1 h1 h2).setCell g c u2 h1 h2).setCell g d u3 h1 h2
theorem set4_other (W : World) {g k : Nat} (hk : k ≠ g) (a b c d i : Nat) (u0 u1 u2 u3 : Value) :
    ((((W.setCell ⟨g, a, none⟩ u0).setCell ⟨g, b, none⟩ u1).setCell ⟨g, c, none⟩ u2).setCell ⟨g, d, none⟩ u3).cell? ⟨k, i, none⟩ = W.cell? ⟨k, i, none⟩ := by
  refine World.cell?_of_block (a := ⟨k, i, none⟩) ?_
  have h : ∀ (W : World) (j : Nat) (v : Value), (W.setCell ⟨g, j, none⟩ v).heap[k]? = W.heap[k]? := fun W j v => Below.heap_setCell _ _ _ _ hk
  rw [h, h, h, h]

theorem out_set7 {lo hi : Nat} {w W : World} (h : Out lo hi w W) {g : Nat} (h1 : lo ≤ g) (h2 : g < hi) (o : Nat) (u0 u1 u2 u3 u4 u5 u6 : Value) :
    Out lo hi w (((((((W.setCell ⟨g, o, none⟩ u0).setCell ⟨g, o + 1, none⟩ u1).setCell ⟨g, o + 2, none⟩ u2).setCell ⟨g, o + 3, none⟩ u3).setCell ⟨g, o + 4, none⟩ u4).setCell ⟨g, o + 5, none⟩ u5).setCell ⟨g, o + 6, none⟩ u6) :=
  ((((((h.setCell g _ u0 h1 h2).setCell g _ u1 h1 h2).setCell g _ u2 h1 h2).setCell g _ u3 h1 h2).setCell g _ u4 h1 h2).setCell g _ u5 h1 h2).setCell g _ u6 h1 h2
theorem set7_far (W : World) {g o i : Nat} (hi : o + 7 ≤ i) (u0 u1 u2 u3 u4 u5 u6 : Value) :
    (((((((W.setCell ⟨g, o, none⟩ u0).setCell ⟨g, o + 1, none⟩ u1).setCell ⟨g, o + 2, none⟩ u2).setCell ⟨g, o + 3, none⟩ u3).setCell ⟨g, o + 4, none⟩ u4).setCell ⟨g, o + 5, none⟩ u5).setCell ⟨g, o + 6, none⟩ u6).cell? ⟨g, i, none⟩ = W.cell? ⟨g, i, none⟩ := by
  have h : ∀ (W : World) (j : Nat) (v : Value), j < i → (W.setCell ⟨g, j, none⟩ v).cell? ⟨g, i, none⟩ = W.cell? ⟨g, i, none⟩ := fun W j v hj => World.cell?_setCell_other _ _ _ _ (fun e => by cases e; omega)
  rw [h _ _ _ (by omega), h _ _ _ (by omega), h _ _ _ (by omega), h _ _ _ (by omega), h _ _ _ (by omega), h _ _ _ (by omega), h _ _ _ (by omega)]
theorem OpAt.far (W : World) {g o j : Nat} {d : OV} (h : OpAt W g j d) (hi : o + 7 ≤ j) (u0 u1 u2 u3 u4 u5 u6 : Value) :
    OpAt (((((((W.setCell ⟨g, o, none⟩ u0).setCell ⟨g, o + 1, none⟩ u1).setCell ⟨g, o + 2, none⟩ u2).setCell ⟨g, o + 3, none⟩ u3).setCell ⟨g, o + 4, none⟩ u4).setCell ⟨g, o + 5, none⟩ u5).setCell ⟨g, o + 6, none⟩ u6) g j d :=
  ⟨(set7_far W (by omega) ..).trans h.c0, (set7_far W (by omega) ..).trans h.c1, (set7_far W (by omega) ..).trans h.c2, (set7_far W (by omega) ..).trans h.c3, (set7_far W (by omega) ..).trans h.c4, (set7_far W (by omega) ..).trans h.c5, (set7_far W (by omega) ..).trans h.c6⟩

end Go.Proofs.YtpmblhofeabppaaGreatDoor

/- A piece's own list and what kind its dynamic type is; a list between two marks, written over. -/
namespace Go.Proofs.YtpmblhofeabppaaGreatDoor
open Go Go.RowKit Go.Lib
set_option linter.unusedVariables false

set_option maxHeartbeats 2000000 in
set_option maxRecDepth 100000 in
theorem marked_any (o : Op5) (p : Option Addr) (l c : Nat) (w : World) (hg : opE o = 0) :
    Calls Tryz.prog 10 #[pieceQ o (.slice p l c)] w fun r w' => ∃ p' l' c', r = .returned (.tuple #[.slice p' l' c', .int .i64 o.k]) ∧ ((p' = p ∧ l' = l ∧ c' = c) ∨ (p' = none ∧ l' = 0 ∧ c' = 0)) ∧ Below w.heap.size w w' := by
  have bA : ∀ x, Below w.heap.size w (w.alloc x) := fun x => (Below.refl _ _).alloc (Nat.le_refl _) _
  rcases kinds_of hg with hk | hk | hk | hk
  · rw [pieceQ_1 hk, hk]
    have a0 := as_i_i
    obtain ⟨n, hn⟩ : ∃ n : Int, ((scs o.t.data.toList).length : Int) = n := ⟨_, rfl⟩
    rw [hn]
    clear hg hk hn
    go_enter Tryz.func10, Tryz.ntmps10
    go_wp2
    go_ret2
    exact ⟨_, _, _, rfl, .inl ⟨rfl, rfl, rfl⟩, bA _⟩
  · rw [pieceQ_2 hk, hk]
    have a0 := as_e_i
    have a1 := as_e_e
    obtain ⟨vu, vx, hV⟩ := valP_if o.v
    rw [hV]
    clear hg hk hV
    go_enter Tryz.func10, Tryz.ntmps10
    go_wp2
    go_ret2
    exact ⟨_, _, _, rfl, .inl ⟨rfl, rfl, rfl⟩, bA _⟩
  · rw [pieceQ_3 hk, hk]
    have a0 := as_r_i
    have a1 := as_r_e6
    have a2 := as_r_r
    clear hg hk
    go_enter Tryz.func10, Tryz.ntmps10
    go_wp2
    go_ret2
    exact ⟨_, _, _, rfl, .inl ⟨rfl, rfl, rfl⟩, bA _⟩
  · rw [pieceQ_4 hk, hk]
    have a0 := as_d_i
    have a1 := as_d_e6
    have a2 := as_d_r
    have a3 := as_d_d
    clear hg hk
    go_enter Tryz.func10, Tryz.ntmps10
    go_wp2
    go_ret2
    exact ⟨_, _, _, rfl, .inr ⟨rfl, rfl, rfl⟩, bA _⟩
theorem others_of_below7 {w w' : World} (h : Below w.heap.size w w') : KeepsOthers w w' :=
  ⟨h.size, fun k o hk _ => (h.block k (Array.getElem?_eq_some_iff.1 hk).1).trans hk⟩
/-- Behind a round: only the list that was handed over, and the counter, have turned. -/
theorem KZ.round {pre : List PZ} {x : PZ} {W Wb Wc : World} {K0 ga : Nat} {u v : Value} (hb : Below W.heap.size W Wb) (ho : Out ga (ga + 1) Wb Wc) (h1 : x.2.1 ≤ ga) (h2 : ga < x.2.2) (h3 : x.2.2 ≤ W.heap.size)
    (hat : ∃ cs, Wb.heap[ga]? = some (.cells cs 45 (0, 0))) (hK : W.heap[K0]? = some (.cells #[v] 3 (0, 0))) : KZ pre x W (Wc.setCell ⟨K0, 0, none⟩ u) := by
  have key : ∀ (k : Nat) (o : Obj), W.heap[k]? = some o → k ≠ ga → k ≠ K0 → (Wc.setCell ⟨K0, 0, none⟩ u).heap[k]? = some o := fun k o hk n1 n2 => by
    have hl := (Array.getElem?_eq_some_iff.1 hk).1
    rw [Below.heap_setCell _ _ _ _ (by exact n2), ho.block k (Nat.lt_of_lt_of_le hl hb.size) (by omega), hb.block k hl, hk]
  refine ⟨by simp only [World.setCell, Array.size_modify]; exact Nat.le_trans hb.size ho.size, fun k cs hk => key k _ hk (fun e => ?_) (fun e => ?_), fun k cs hk hx => key k _ hk (by omega) (fun e => ?_)⟩
  · subst e
    obtain ⟨cs', h⟩ := hat
    rw [hb.block k (Array.getElem?_eq_some_iff.1 hk).1, hk] at h
    cases h
  · subst e; rw [hK] at hk; cases hk
  · subst e; rw [hK] at hk; cases hk
theorem KZ.round0 {pre : List PZ} {x : PZ} {W Wb : World} {K0 : Nat} {u v : Value} (hb : Below W.heap.size W Wb) (hK : W.heap[K0]? = some (.cells #[v] 3 (0, 0))) : KZ pre x W (Wb.setCell ⟨K0, 0, none⟩ u) := by
  have key : ∀ (k : Nat) (o : Obj), W.heap[k]? = some o → k ≠ K0 → (Wb.setCell ⟨K0, 0, none⟩ u).heap[k]? = some o := fun k o hk n2 => by
    have hl := (Array.getElem?_eq_some_iff.1 hk).1
    rw [Below.heap_setCell _ _ _ _ (by exact n2), hb.block k hl, hk]
  refine ⟨by simp only [World.setCell, Array.size_modify]; exact hb.size, fun k cs hk => key k _ hk (fun e => ?_), fun k cs hk hx => key k _ hk (fun e => ?_)⟩
  · subst e; rw [hK] at hk; cases hk
  · subst e; rw [hK] at hk; cases hk
end Go.Proofs.YtpmblhofeabppaaGreatDoor

/- A region that draws its order, in a round of a range over a function: the plain kit's walk of it (held at S) serves: its laws, and those by which it is walked by hand. -/
namespace Go.Proofs.YtpmblhofeabppaaGreatDoor
open Go
set_option linter.unusedVariables false

section
variable {n l : Nat} {P : Program} {ops : Array Oper} {Q : Exit → Act → World → Prop} {md : Region.Mode} {S : World → Prop}
theorem op_round {o : Oper} {a : Act} {w : World} {K : Act → World → Prop} (hd : ∀ c, o.op ≠ .defer c) (h : o.wp P a w K Q) : o.wpIn (Fence.wide.inRound l) n P a w K Q := by
  refine ⟨fun _ _ => trivial, ?_⟩
  rw [Oper.semAt_plain _ _ _ hd]
  unfold Oper.wp at h
  generalize (execOp a.eval o).run P w = r at *
  cases r with
  | ok x w' =>
    cases x <;> simp only [Oper.upon, Oper.uponIn] at h ⊢ <;>
      first
        | exact h
        | exact ⟨fun hh => (by cases hh), CallsIn.inRound l (callsIn_wide.2 h)⟩
        | (refine ⟨fun hh => (by cases hh), fun c cs hr => ?_⟩
           obtain ⟨v, w'', r, s⟩ := h c cs
           exact ⟨v, w'', r, stepsIn_wide.2 s⟩)
  | halt x w' => cases x <;> simp only [Oper.upon, Oper.uponIn] at h ⊢ <;> exact h
theorem any_round (hno : ¬ LetsOut Q) (hd : ∀ (i : Nat) (o : Oper), ops[i]? = some o → ∀ c, o.op ≠ .defer c) : ∀ (fuel : Nat) (listed : Array Bool) (a : Act) (w : World), wpAny P md ops Q fuel listed a w → wpAnyIn (Fence.wide.inRound l) n P md ops Q fuel listed a w
  | 0, _, _, _, h => h
  | fuel + 1, listed, a, w, h => by
    refine ⟨h.1, fun i hi => ?_⟩
    have hh := h.2 i hi
    unfold wpOp at hh
    unfold wpOpIn
    cases ho : ops[i]? with
    | none => rw [ho] at hh; exact any_round hno hd fuel _ _ _ hh
    | some o =>
      rw [ho] at hh
      simp only at hh ⊢
      split
      · rename_i hw
        rw [if_pos hw] at hh
        exact Oper.wpIn_mono (fun a w => any_round hno hd fuel _ a w) (op_round (hd i o ho) (hh.elim id fun h => (hno h.2).elim))
      · rename_i hw
        rw [if_neg hw] at hh
        exact ⟨fun _ _ => trivial, any_round hno hd fuel _ _ _ hh⟩
theorem region_round_held {id : Nat} {a : Act} {w : World} (hm : P.follows .mixedOrders = true) (hd : (ops.all fun o => match o.op with | .defer _ => false | _ => true) = true) (hno : ¬ LetsOut Q) (hS : S w.drew)
    (h : S w.drew → wpAnyH P .any ops Q S ops.size (Array.replicate ops.size false) a w.drew) : (Code.region id ops true).wpIn (Fence.wide.inRound l) n P Q a w := by
  refine wpIn_region_any hm (any_round hno (fun i o ho c hc => ?_) _ _ _ _ (wpAny_of_held _ _ _ _ (h hS)))
  have := Array.all_eq_true_iff_forall_mem.1 hd o (Array.mem_of_getElem? ho)
  rw [hc] at this
  cases this
end

/-- The operation with number i. -/
def nthO (d : Oper) : List Oper → Nat → Oper
  | [], _ => d
  | o :: _, 0 => o
  | _ :: t, i + 1 => nthO d t i
section
variable {P : Program} {Q : Exit → Act → World → Prop} {md : Region.Mode} {S : World → Prop}
/-- An operation that yields in every world that meets S is taken first. -/
theorem take_L (d : Oper) {L : List Oper} (i : Nat) (v : Value) {fuel : Nat} {listed : Array Bool} {a : Act} {w : World} (hi : L.toArray[i]? = some (nthO d L i))
    (hs : Region.noSelect L.toArray = true) (hf : Region.free md L.toArray listed i = true) (hr : (Region.ready md L.toArray listed).contains i = true)
    (hQ : ∀ c a (o : Option Tmp) v w, Q (.panic c) (a.put o v) w → Q (.panic c) a w) (hw : Region.wanted (nthO d L i) (yielded L.toArray a.tmps) = true)
    (hS : S w) (hy : ∀ w, S w → (execOp a.eval (nthO d L i)).run P w = .ok (.value v) w)
    (h : wpAnyH P md L.toArray Q S fuel (listed.setIfInBounds i true) (a.put (nthO d L i).dst v) w) : wpAnyH P md L.toArray Q S (fuel + 1) listed a w :=
  wpAnyH_take hi hs hf hr (fun c a w => hQ c a _ _ w) (Or.inl ⟨hw, hy⟩) hS h
/-- One operation alone may come up. -/
theorem one_L (d : Oper) {L : List Oper} (i : Nat) {fuel : Nat} {listed : Array Bool} {a : Act} {w : World} (hi : L.toArray[i]? = some (nthO d L i)) (hr : Region.ready md L.toArray listed = [i])
    (h : ∀ K' : Act → World → Prop, Shut (∀ a w, S w → (S w → wpAnyH P md L.toArray Q S fuel (listed.setIfInBounds i true) a w) → K' a w) → if Region.wanted (nthO d L i) (yielded L.toArray a.tmps) = true then Oper.wp P (nthO d L i) a w K' Q else K' (a.put (nthO d L i).dst undef) w) : wpAnyH P md L.toArray Q S (fuel + 1) listed a w :=
  wpAnyH_ready hr (by simp) (AllReadyH.cons hi h AllReadyH.nil)
end
end Go.Proofs.YtpmblhofeabppaaGreatDoor

/- The body of WalkEach's loop over walk.Each, walked once. -/
namespace Go.Proofs.YtpmblhofeabppaaGreatDoor
open Go Go.RowKit Go.Lib Go.Shelf
set_option linter.unusedVariables false
attribute [local go_sem] Oper.semAt_some

def dOp : Oper := { dst := none, op := Op.move (.tmp 0), type := 0, pos := "", after := #[], guard := none }
def rfBody7 : Code → Option Code
  | .rangeFunc _ _ _ b => some b
  | .seq a b => (rfBody7 a).orElse fun _ => rfBody7 b
  | .block _ c => rfBody7 c
  | .loop c => rfBody7 c
  | .cond _ a b => (rfBody7 a).orElse fun _ => rfBody7 b
  | _ => none
def EI7 (K0 : Nat) (w0 : World) (pre : List PZ) (W : World) : Prop := W.heap[K0]? = some (.cells #[.int .i64 (pre.length : Nat)] 3 (0, 0)) ∧ Below w0.heap.size w0 W
/-- What the round reads, at w0. -/
structure EW7 (w0 : World) (E : List Op5) (O Ab : Nat) (po : Option Addr) (n co : Nat) (pa : Option Addr) (ca : Nat) : Prop where
  len : E.length = n
  good : ∀ o ∈ E, opE o = 0
  at' : ∀ o ∈ E, o.A.length ≤ 1048576
  hn : n ≤ 1048576
  o : w0.cell? ⟨O, 0, none⟩ = some (.slice po n co)
  re : ReO w0 (.slice po n co) E
  a : w0.cell? ⟨Ab, 0, none⟩ = some (.slice pa n ca)
  hca : n ≤ ca
  al : ∀ (j : Nat) (e : Op5), E[j]? = some e → ∃ g s, pa = some ⟨g, 0, none⟩ ∧ w0.cell? ⟨g, j, none⟩ = some (pieceQ e s) ∧ RN w0 s e.A
theorem re_at {w : World} {po : Option Addr} {n co : Nat} {E : List Op5} (h : ReO w (.slice po n co) E) {j : Nat} {e : Op5} (he : E[j]? = some e) : n ≤ co ∧ ∃ b off p c, po = some ⟨b, off, none⟩ ∧ OpAt w b (off + j * 7) (e.k, e.t, e.v, e.c, p, e.A.length, c) ∧ RN w (.slice p e.A.length c) e.A := by
  obtain ⟨D, ⟨p, cap, hv, hl, _, hc⟩, hre⟩ := h
  simp only [Value.slice.injEq] at hv
  obtain ⟨rfl, hnl, rfl⟩ := hv
  have hD := forall2_len hre
  refine ⟨by omega, ?_⟩
  obtain ⟨d, hd⟩ : ∃ d, D[j]? = some d := ⟨_, List.getElem?_eq_getElem (by rw [hD]; exact (List.getElem?_eq_some_iff.1 he).1)⟩
  obtain ⟨y, hy, h1, h2, h3, h4, h5⟩ := forall2_get hre j d hd
  rw [he] at hy
  cases hy
  obtain ⟨b, off, e1, e2⟩ := hc j d hd
  obtain ⟨dk, dt, dv, dc, dp, dl, dcap⟩ := d
  obtain ⟨q, c, e3, _⟩ := h5.row.val
  simp only at h1 h2 h3 h4
  simp only [slV, Value.slice.injEq] at e3
  obtain ⟨rfl, rfl, rfl⟩ := e3
  subst h1; subst h2; subst h3; subst h4
  exact ⟨b, off, dp, dcap, e1, e2, h5⟩

theorem Hid.mk7 {P : Prop} (h : P) : Hid P := h
theorem each_fin0 {pre : List PZ} {x : PZ} {w0 W Wc : World} {B K0 k : Nat} (hk : pre.length = k) (hN : W.heap[K0]? = some (.cells #[.int .i64 (k : Nat)] 3 (0, 0))) (hB : Below w0.heap.size w0 W) (hK0 : w0.heap.size ≤ K0) (hb : Below W.heap.size W Wc) :
    KeepsFrom B W (Wc.setCell ⟨K0, 0, none⟩ (.int .i64 ((k : Int) + 1))) ∧ KZ pre x W (Wc.setCell ⟨K0, 0, none⟩ (.int .i64 ((k : Int) + 1))) ∧ EI7 K0 w0 (pre ++ [x]) (Wc.setCell ⟨K0, 0, none⟩ (.int .i64 ((k : Int) + 1))) := by
  have hN' := heap_below hb hN
  refine ⟨((others_of_below7 hb).trans (KeepsOthers.setCell _ _ _)).from _, KZ.round0 hb hN, ?_, ((hB.trans (hb.mono hB.size)).setCell (p := ⟨K0, 0, none⟩) hK0 _)⟩
  rw [heap_set_at Wc _ 0 _ _ _ _ hN', List.length_append, hk]
  rfl
theorem each_fin {pre : List PZ} {x : PZ} {w0 W Wc Wd : World} {B K0 k ga : Nat} (hk : pre.length = k) (hN : W.heap[K0]? = some (.cells #[.int .i64 (k : Nat)] 3 (0, 0))) (hB : Below w0.heap.size w0 W) (hK0 : w0.heap.size ≤ K0) (hb : Below W.heap.size W Wc)
    (ho : Out ga (ga + 1) Wc Wd) (hko : KeepsOthers Wc Wd) (h1 : x.2.1 ≤ ga) (h2 : ga < x.2.2) (h3 : x.2.2 ≤ W.heap.size) (h4 : K0 < x.2.1) (hat : ∃ cs, Wc.heap[ga]? = some (.cells cs 45 (0, 0))) :
    KeepsFrom B W (Wd.setCell ⟨K0, 0, none⟩ (.int .i64 ((k : Int) + 1))) ∧ KZ pre x W (Wd.setCell ⟨K0, 0, none⟩ (.int .i64 ((k : Int) + 1))) ∧ EI7 K0 w0 (pre ++ [x]) (Wd.setCell ⟨K0, 0, none⟩ (.int .i64 ((k : Int) + 1))) := by
  have hN' := heap_below hb hN
  have hN2 : Wd.heap[K0]? = some (.cells #[.int .i64 (k : Nat)] 3 (0, 0)) := (ho.block K0 (Array.getElem?_eq_some_iff.1 hN').1 (Or.inl (by omega))).trans hN'
  have hz := hb.size
  refine ⟨(((others_of_below7 hb).trans hko).trans (KeepsOthers.setCell _ _ _)).from _, KZ.round hb ho h1 h2 h3 hat hN, ?_, (((hB.trans (hb.mono hB.size)).trans ((ho.below (by omega)).mono (by omega))).setCell (p := ⟨K0, 0, none⟩) hK0 _)⟩
  rw [heap_set_at Wd _ 0 _ _ _ _ hN2, List.length_append, hk]
  rfl
set_option maxHeartbeats 8000000 in
set_option maxRecDepth 100000 in
theorem each_body (eachBody : Code) (hcode : (Tryz.f3.body).bind rfBody7 = some eachBody) (E : List Op5) (O Ab K0 : Nat) (po : Option Addr) (n co : Nat) (pa : Option Addr) (ca : Nat) (w0 w1 : World) (hw : EW7 w0 E O Ab po n co pa ca)
    (hK0 : w0.heap.size ≤ K0) (hK1 : K0 < w1.heap.size) (B0 : Nat) (hB0 : w1.heap.size ≤ B0) (Ix : Code → List PZ → World → Prop) (l : Nat) (pre : List PZ) (x : PZ) (W : World) (hI : EI7 K0 w0 pre W) (hG : GZ E B0 pre x W)
    {u0 u1 u2 u3 u5 u6 u8 u11 u12 u13 u14 u15 u16 u17 u18 u19 u20 u21 u22 u23 u24 u25 u26 u27 u28 u29 u30 u31 u32 u33 u34 u35 u36 u37 u38 u39 u40 u41 u42 u43 u44 u45 u47 u48 u49 u50 u51 u52 u53 u54 u55 u56 u57 u58 u59 u60 u61 u62 u63 u64 u65 u66 u67 u68 u69 u70 u71 u72 u73 u74 u75 u76 u77 u78 u79 u80 u81 u82 u83 u84 u85 u86 u87 u88 u89 u90 u91 u92 u93 u94 u95 u96 u97 u98 u99 u100 u101 u102 u103 u104 u105 u106 u107 u108 : Value} :
    eachBody.wpIn (Fence.wide.inRound l) 3 Tryz.prog (gPost w1.heap.size KZ (EI7 K0 w0) Ix pre x W) { tmps := #[u0, u1, u2, u3, .pointer (some ⟨O, 0, none⟩), u5, u6, .pointer (some ⟨Ab, 0, none⟩), u8, .pointer (some ⟨K0, 0, none⟩), x.1, u11, u12, u13, u14, u15, u16, u17, u18, u19, u20, u21, u22, u23, u24, u25, u26, u27, u28, u29, u30, u31, u32, u33, u34, u35, u36, u37, u38, u39, u40, u41, u42, u43, u44, u45, x.1, u47, u48, u49, u50, u51, u52, u53, u54, u55, u56, u57, u58, u59, u60, u61, u62, u63, u64, u65, u66, u67, u68, u69, u70, u71, u72, u73, u74, u75, u76, u77, u78, u79, u80, u81, u82, u83, u84, u85, u86, u87, u88, u89, u90, u91, u92, u93, u94, u95, u96, u97, u98, u99, u100, u101, u102, u103, u104, u105, u106, u107, u108], defers := [] } W := by
  delta Tryz.f3 at hcode
  simp only [rfBody7, Option.bind_some, Option.some.injEq, Option.orElse] at hcode
  subst hcode
  obtain ⟨e, s, he, hx, hin, hlo, hhi⟩ := hG
  obtain ⟨hN, hB⟩ := hI
  obtain ⟨k, hk⟩ : ∃ k, pre.length = k := ⟨_, rfl⟩
  rw [hk] at he hN
  obtain ⟨hco, b, off, p, c, rfl, hop, hrn⟩ := re_at hw.re he
  obtain ⟨g, sa, rfl, hcell, hrna⟩ := hw.al k e he
  have hkn : k < n := by rw [← hw.len]; exact (List.getElem?_eq_some_iff.1 he).1
  have hge := hw.good e (List.mem_of_getElem? he)
  have hae := hw.at' e (List.mem_of_getElem? he)
  have hkI : ¬ ((k : Int) ≥ (n : Int)) := by omega
  obtain ⟨x1, xlo, xhi⟩ := x
  simp only at hx hin hlo hhi ⊢
  subst hx
  obtain ⟨ps, cs, rfl⟩ : ∃ ps cs, s = .slice ps e.A.length cs := by
    obtain ⟨q, c', e1, _⟩ := (own_RN hin.own).row.val
    exact ⟨q, c', e1⟩
  obtain ⟨psa, csa, rfl⟩ : ∃ ps cs, sa = .slice ps e.A.length cs := by
    obtain ⟨q, c', e1, _⟩ := hrna.row.val
    exact ⟨q, c', e1⟩
  have cK : W.cell? ⟨K0, 0, none⟩ = some (.int .i64 (k : Nat)) := by rw [cell_of_heap hN]; rfl
  have HF : Hid (∀ W', Below W.heap.size W W' → (W'.cell? ⟨O, 0, none⟩ = some (.slice (some ⟨b, off, none⟩) n co) ∧ W'.cell? ⟨Ab, 0, none⟩ = some (.slice (some ⟨g, 0, none⟩) n ca) ∧ W'.cell? ⟨K0, 0, none⟩ = some (.int .i64 (k : Nat)) ∧ W'.cell? ⟨g, k, none⟩ = some (pieceQ e (.slice psa e.A.length csa)) ∧
      W'.cell? ⟨b, off + k * 7, none⟩ = some (.int .i64 e.k) ∧ W'.cell? ⟨b, off + k * 7 + 1, none⟩ = some (.string e.t) ∧ W'.cell? ⟨b, off + k * 7 + 2, none⟩ = some (.int .i64 e.v.1) ∧ W'.cell? ⟨b, off + k * 7 + 3, none⟩ = some (.int .i64 e.v.2.1) ∧ W'.cell? ⟨b, off + k * 7 + 4, none⟩ = some (.string e.v.2.2) ∧ W'.cell? ⟨b, off + k * 7 + 5, none⟩ = some (.int .i64 e.c) ∧ W'.cell? ⟨b, off + k * 7 + 6, none⟩ = some (.slice p e.A.length c))) := fun W' hW => by
    have hBW := hB.trans (hW.mono hB.size)
    obtain ⟨a0, a1, a2, a3, a4, a5, a6⟩ := hop.below hBW
    exact ⟨(hBW.cell (lt_of_cell hw.o)).trans hw.o, (hBW.cell (lt_of_cell hw.a)).trans hw.a, (hW.cell (lt_of_cell cK)).trans cK, (hBW.cell (lt_of_cell hcell)).trans hcell, a0, a1, a2, a3, a4, a5, a6⟩
  have cS : Hid (∀ W' pv cv, Below W.heap.size W W' → RN W' (.slice pv e.A.length cv) e.A → Calls Tryz.prog 9 #[opV e (.slice pv e.A.length cv), opV e (.slice p e.A.length c)] W' fun r w' => r = .returned (.bool true) ∧ Below W.heap.size W w') := fun W' pv cv hW hR => from_below hW (by
    have := sameR_any e e (.slice pv e.A.length cv) (.slice p e.A.length c) W' hR.row (hrn.below (hB.trans (hW.mono hB.size))).row (by omega) (by omega)
    rw [decide_eq_true rfl] at this
    exact this)
  have HR : Hid ((∀ W', Below W.heap.size W W' → RN W' (.slice ps e.A.length cs) e.A) ∧ ∀ W', Below W.heap.size W W' → RN W' (.slice psa e.A.length csa) e.A) := ⟨fun W' hW => (own_RN hin.own).below hW, fun W' hW => hrna.below (hB.trans (hW.mono hB.size))⟩
  have cM : Hid (∀ W', Below W.heap.size W W' → Calls Tryz.prog 10 #[pieceQ e (.slice ps e.A.length cs)] W' fun r w' => ∃ p' l' c', r = .returned (.tuple #[.slice p' l' c', .int .i64 e.k]) ∧ ((p' = ps ∧ l' = e.A.length ∧ c' = cs) ∨ (p' = none ∧ l' = 0 ∧ c' = 0)) ∧ Below W.heap.size W w') := fun W' hW => (marked_any e ps e.A.length cs W' hge).mono fun r w' ⟨p', l', c', h1, h2, h3⟩ => ⟨p', l', c', h1, h2, hW.trans (h3.mono hW.size)⟩
  have HI : Hid (pre.length = k ∧ W.heap[K0]? = some (.cells #[.int .i64 (k : Nat)] 3 (0, 0)) ∧ Below w0.heap.size w0 W ∧ w0.heap.size ≤ K0 ∧ K0 < w1.heap.size ∧ w1.heap.size ≤ xlo ∧ xhi ≤ W.heap.size) := ⟨hk, hN, hB, hK0, hK1, Nat.le_trans hB0 hlo, hhi⟩
  have HA : Hid (∀ W', Below W.heap.size W W' → 0 < e.A.length → ∃ ga, ps = some ⟨ga, 0, none⟩ ∧ xlo ≤ ga ∧ ga < xhi ∧ ∃ cur : Array Value, W'.heap[ga]? = some (.cells cur 45 (0, 0)) ∧ e.A.length * 4 ≤ cur.size) := fun W' hW h0 => by
    rcases (owns_below hin.own hW).2 with ⟨h7, h8⟩ | ⟨g', cap', cur, h7, h8, h9, h10, h11, h12, h13⟩
    · rw [Value.slice.injEq] at h7; omega
    · simp only [Value.slice.injEq] at h7
      obtain ⟨rfl, -, rfl⟩ := h7
      refine ⟨g', rfl, h8, hin.top g' rfl, cur, h9, ?_⟩
      omega
  have hnI : n ≤ ca := hw.hca
  have hcoI : n ≤ co := hco
  have hknI : (k : Int) < n := by omega
  have hk1 : (k : Int) ≤ 1048576 := by have := hw.hn; omega
  have hs' : ∀ (W' : World) (s' : Value), Below W.heap.size W W' → (s' = .slice ps e.A.length cs ∨ s' = .slice psa e.A.length csa) → RN W' s' e.A := fun W' s' hW hs => by
    rcases hs with rfl | rfl
    · exact HR.out.1 W' hW
    · exact HR.out.2 W' hW
  have hcs : e.A.length ≤ cs := by
    obtain ⟨q, c', e1, h1, _⟩ := (own_RN hin.own).row
    simp only [Value.slice.injEq] at e1
    omega
  have hkB : (decide ((k : Int) ≥ (n : Int))) = false := decide_eq_false (by omega)
  have hkB2 : (decide ((n : Int) ≤ (k : Int))) = false := decide_eq_false (by omega)
  have hkB3 : (decide (n ≤ k)) = false := decide_eq_false (by omega)
  have hee : (e.k != e.k) = false := bne_self_eq_false e.k
  have md := HF.out _ (Below.refl W.heap.size W).drew
  have bd : Below W.heap.size W W.drew := (Below.refl _ _).drew
  have HMD : Hid _ := md
  clear md
  rcases kinds_of hge with hq | hq | hq | hq
  · have cO : Hid (∀ (W' : World) (s' : Value), Below W.heap.size W W' → (s' = .slice ps e.A.length cs ∨ s' = .slice psa e.A.length csa) → Calls Tryz.prog 125 #[.agg #[s', .string e.t, .int .i64 (scs e.t.data.toList).length]] W' fun r w' => ∃ pv cv, r = .returned (opV e (.slice pv e.A.length cv)) ∧ RN w' (.slice pv e.A.length cv) e.A ∧ Below W.heap.size W w') := fun W' s' hW hs => (opQ_1 hge hq s' W' (hs' W' s' hW hs) (by omega)).mono fun r w' ⟨v', h1, h2, h3⟩ => by
      obtain ⟨q, c', e1, _⟩ := (own_RN h2).row.val
      subst e1
      exact ⟨q, c', h1, own_RN h2, hW.trans (h3.mono hW.size)⟩
    rw [pieceQ_1 hq] at HF cM HMD ⊢
    obtain ⟨N, hNN⟩ : ∃ N : Int, ((scs e.t.data.toList).length : Int) = N := ⟨_, rfl⟩
    simp only [hNN] at cO HF cM HMD ⊢
    clear hNN
    obtain ⟨m, hm⟩ : ∃ m, e.A.length = m := ⟨_, rfl⟩
    rw [hm] at hcs hae HMD
    simp only [hm] at cO HF cM cS HA ⊢
    have HRR : Hid (e.A.length = m) := hm
    clear hs' hm HR hge hq hin hrn hrna hcell hop hw he hN hB hk hK0 hK1 hlo hhi hB0 hco hkn cK
    gi_wp2
    refine region_round_held (S := (fun w' => (w'.cell? ⟨O, 0, none⟩ = some (.slice (some ⟨b, off, none⟩) n co) ∧ w'.cell? ⟨Ab, 0, none⟩ = some (.slice (some ⟨g, 0, none⟩) n ca) ∧ w'.cell? ⟨K0, 0, none⟩ = some (.int .i64 (k : Nat)) ∧ w'.cell? ⟨g, k, none⟩ = some (.iface 71 (.agg #[.slice psa m csa, .string e.t, .int .i64 N])) ∧ w'.cell? ⟨b, off + k * 7, none⟩ = some (.int .i64 e.k) ∧ w'.cell? ⟨b, off + k * 7 + 1, none⟩ = some (.string e.t) ∧ w'.cell? ⟨b, off + k * 7 + 2, none⟩ = some (.int .i64 e.v.1) ∧ w'.cell? ⟨b, off + k * 7 + 3, none⟩ = some (.int .i64 e.v.2.1) ∧ w'.cell? ⟨b, off + k * 7 + 4, none⟩ = some (.string e.v.2.2) ∧ w'.cell? ⟨b, off + k * 7 + 5, none⟩ = some (.int .i64 e.c) ∧ w'.cell? ⟨b, off + k * 7 + 6, none⟩ = some (.slice p m c)) ∧ Below W.heap.size W w')) (by kernel_rfl) (by kernel_rfl) (fun ⟨_, _, h⟩ => h) ?_ (fun hHeld => ?_)
    · (try dsimp only); exact ⟨by first | (with_reducible assumption) | exact HMD.out, by first | (with_reducible assumption)⟩
    refine take_L dOp 0 ?_ (by kernel_rfl) (by kernel_rfl) (by kernel_rfl) (by kernel_rfl) (fun _ _ _ _ _ h => h) (by rfl) hHeld (fun w hSw => ?_) ?_
    rotate_left
    · (try dsimp only at hSw); simp only [nthO]; go_simp; first | done | with_reducible rfl
    simp only [nthO, Act.put, List.setIfInBounds_toArray, List.set_cons_zero, List.set_cons_succ]
    refine take_L dOp 1 ?_ (by kernel_rfl) (by kernel_rfl) (by kernel_rfl) (by kernel_rfl) (fun _ _ _ _ _ h => h) (by rfl) hHeld (fun w hSw => ?_) ?_
    rotate_left
    · (try dsimp only at hSw); simp only [nthO]; go_simp; first | done | with_reducible rfl
    simp only [nthO, Act.put, List.setIfInBounds_toArray, List.set_cons_zero, List.set_cons_succ]
    refine take_L dOp 2 ?_ (by kernel_rfl) (by kernel_rfl) (by kernel_rfl) (by kernel_rfl) (fun _ _ _ _ _ h => h) (by rfl) hHeld (fun w hSw => ?_) ?_
    rotate_left
    · (try dsimp only at hSw); simp only [nthO]; go_simp; first | done | with_reducible rfl
    simp only [nthO, Act.put, List.setIfInBounds_toArray, List.set_cons_zero, List.set_cons_succ]
    refine take_L dOp 3 ?_ (by kernel_rfl) (by kernel_rfl) (by kernel_rfl) (by kernel_rfl) (fun _ _ _ _ _ h => h) (by rfl) hHeld (fun w hSw => ?_) ?_
    rotate_left
    · (try dsimp only at hSw); simp only [nthO]; go_simp; first | done | with_reducible rfl
    simp only [nthO, Act.put, List.setIfInBounds_toArray, List.set_cons_zero, List.set_cons_succ]
    refine take_L dOp 4 ?_ (by kernel_rfl) (by kernel_rfl) (by kernel_rfl) (by kernel_rfl) (fun _ _ _ _ _ h => h) (by rfl) hHeld (fun w hSw => ?_) ?_
    rotate_left
    · (try dsimp only at hSw); simp only [nthO]; go_simp; first | done | with_reducible rfl
    simp only [nthO, Act.put, List.setIfInBounds_toArray, List.set_cons_zero, List.set_cons_succ]
    refine take_L dOp 5 ?_ (by kernel_rfl) (by kernel_rfl) (by kernel_rfl) (by kernel_rfl) (fun _ _ _ _ _ h => h) (by rfl) hHeld (fun w hSw => ?_) ?_
    rotate_left
    · (try dsimp only at hSw); simp only [nthO]; go_simp; first | done | with_reducible rfl
    simp only [nthO, Act.put, List.setIfInBounds_toArray, List.set_cons_zero, List.set_cons_succ]
    refine take_L dOp 6 ?_ (by kernel_rfl) (by kernel_rfl) (by kernel_rfl) (by kernel_rfl) (fun _ _ _ _ _ h => h) (by rfl) hHeld (fun w hSw => ?_) ?_
    rotate_left
    · (try dsimp only at hSw); simp only [nthO]; go_simp; first | done | with_reducible rfl
    simp only [nthO, Act.put, List.setIfInBounds_toArray, List.set_cons_zero, List.set_cons_succ]
    refine take_L dOp 7 ?_ (by kernel_rfl) (by kernel_rfl) (by kernel_rfl) (by kernel_rfl) (fun _ _ _ _ _ h => h) (by rfl) hHeld (fun w hSw => ?_) ?_
    rotate_left
    · (try dsimp only at hSw); simp only [nthO]; go_simp; first | done | with_reducible rfl
    simp only [nthO, Act.put, List.setIfInBounds_toArray, List.set_cons_zero, List.set_cons_succ]
    refine take_L dOp 8 ?_ (by kernel_rfl) (by kernel_rfl) (by kernel_rfl) (by kernel_rfl) (fun _ _ _ _ _ h => h) (by rfl) hHeld (fun w hSw => ?_) ?_
    rotate_left
    · (try dsimp only at hSw); simp only [nthO]; go_simp; first | done | with_reducible rfl
    simp only [nthO, Act.put, List.setIfInBounds_toArray, List.set_cons_zero, List.set_cons_succ]
    refine take_L dOp 9 ?_ (by kernel_rfl) (by kernel_rfl) (by kernel_rfl) (by kernel_rfl) (fun _ _ _ _ _ h => h) (by rfl) hHeld (fun w hSw => ?_) ?_
    rotate_left
    · (try dsimp only at hSw); simp only [nthO]; go_simp; first | done | with_reducible rfl
    simp only [nthO, Act.put, List.setIfInBounds_toArray, List.set_cons_zero, List.set_cons_succ]
    refine take_L dOp 11 ?_ (by kernel_rfl) (by kernel_rfl) (by kernel_rfl) (by kernel_rfl) (fun _ _ _ _ _ h => h) (by rfl) hHeld (fun w hSw => ?_) ?_
    rotate_left
    · (try dsimp only at hSw); simp only [nthO]; go_simp; first | done | with_reducible rfl
    simp only [nthO, Act.put, List.setIfInBounds_toArray, List.set_cons_zero, List.set_cons_succ]
    refine take_L dOp 12 ?_ (by kernel_rfl) (by kernel_rfl) (by kernel_rfl) (by kernel_rfl) (fun _ _ _ _ _ h => h) (by rfl) hHeld (fun w hSw => ?_) ?_
    rotate_left
    · (try dsimp only at hSw); simp only [nthO]; go_simp; first | done | with_reducible rfl
    simp only [nthO, Act.put, List.setIfInBounds_toArray, List.set_cons_zero, List.set_cons_succ]
    refine take_L dOp 13 ?_ (by kernel_rfl) (by kernel_rfl) (by kernel_rfl) (by kernel_rfl) (fun _ _ _ _ _ h => h) (by rfl) hHeld (fun w hSw => ?_) ?_
    rotate_left
    · (try dsimp only at hSw); simp only [nthO]; go_simp; first | done | with_reducible rfl
    simp only [nthO, Act.put, List.setIfInBounds_toArray, List.set_cons_zero, List.set_cons_succ]
    refine take_L dOp 14 ?_ (by kernel_rfl) (by kernel_rfl) (by kernel_rfl) (by kernel_rfl) (fun _ _ _ _ _ h => h) (by rfl) hHeld (fun w hSw => ?_) ?_
    rotate_left
    · (try dsimp only at hSw); simp only [nthO]; go_simp; first | done | with_reducible rfl
    simp only [nthO, Act.put, List.setIfInBounds_toArray, List.set_cons_zero, List.set_cons_succ]
    refine one_L dOp 10 (by kernel_rfl) (by kernel_rfl) (fun K hK => ?_)
    simp only [nthO]
    go_simp
    first
      | (go_at_call 125; refine (cO.out _ _ ?_ (by first | exact .inl rfl | exact .inr rfl)).mono ?_; (· first | (with_reducible assumption) | (apply And.right; with_reducible assumption)); rintro r wA ⟨pv, cv, rfl, hA1, bA⟩; have mA := HF.out wA bA; have HA1 : Hid _ := hA1; clear hA1)
      | go_wp2_with (go_at_call 125; refine (cO.out _ _ ?_ (by first | exact .inl rfl | exact .inr rfl)).mono ?_; (· first | (with_reducible assumption) | (apply And.right; with_reducible assumption)); rintro r wA ⟨pv, cv, rfl, hA1, bA⟩; have mA := HF.out wA bA; have HA1 : Hid _ := hA1; clear hA1)
    try go_wp2_with fail
    refine hK.out _ _ ?_ (fun hHeld2 => ?_)
    · (try dsimp only); exact ⟨by first | (with_reducible assumption) | exact HMD.out, by first | (with_reducible assumption)⟩
    clear hK K hHeld; have hHeld := hHeld2; clear hHeld2
    try simp only [Act.put, List.setIfInBounds_toArray, List.set_cons_zero, List.set_cons_succ]
    refine one_L dOp 15 (by kernel_rfl) (by kernel_rfl) (fun K hK => ?_)
    simp only [nthO]
    go_simp
    first
      | (go_at_call 9; refine (cS.out _ _ _ bA HA1.out).mono ?_; rintro r wB ⟨rfl, bB⟩; have mB := HF.out wB bB)
      | go_wp2_with (go_at_call 9; refine (cS.out _ _ _ bA HA1.out).mono ?_; rintro r wB ⟨rfl, bB⟩; have mB := HF.out wB bB)
    try go_wp2_with fail
    refine hK.out _ _ ?_ (fun hHeld2 => ?_)
    · (try dsimp only); exact ⟨by first | (with_reducible assumption) | exact HMD.out, by first | (with_reducible assumption)⟩
    clear hK K hHeld; have hHeld := hHeld2; clear hHeld2
    try simp only [Act.put, List.setIfInBounds_toArray, List.set_cons_zero, List.set_cons_succ]
    refine take_L dOp 16 ?_ (by kernel_rfl) (by kernel_rfl) (by kernel_rfl) (by kernel_rfl) (fun _ _ _ _ _ h => h) (by rfl) hHeld (fun w hSw => ?_) ?_
    rotate_left
    · (try dsimp only at hSw); simp only [nthO]; go_simp; first | done | with_reducible rfl
    simp only [nthO, Act.put, List.setIfInBounds_toArray, List.set_cons_zero, List.set_cons_succ]
    refine take_L dOp 17 ?_ (by kernel_rfl) (by kernel_rfl) (by kernel_rfl) (by kernel_rfl) (fun _ _ _ _ _ h => h) (by rfl) hHeld (fun w hSw => ?_) ?_
    rotate_left
    · (try dsimp only at hSw); simp only [nthO]; go_simp; first | done | with_reducible rfl
    simp only [nthO, Act.put, List.setIfInBounds_toArray, List.set_cons_zero, List.set_cons_succ]
    refine take_L dOp 18 ?_ (by kernel_rfl) (by kernel_rfl) (by kernel_rfl) (by kernel_rfl) (fun _ _ _ _ _ h => h) (by rfl) hHeld (fun w hSw => ?_) ?_
    rotate_left
    · (try dsimp only at hSw); simp only [nthO]; go_simp; first | done | with_reducible rfl
    simp only [nthO, Act.put, List.setIfInBounds_toArray, List.set_cons_zero, List.set_cons_succ]
    refine take_L dOp 19 ?_ (by kernel_rfl) (by kernel_rfl) (by kernel_rfl) (by kernel_rfl) (fun _ _ _ _ _ h => h) (by rfl) hHeld (fun w hSw => ?_) ?_
    rotate_left
    · (try dsimp only at hSw); simp only [nthO]; go_simp; first | done | with_reducible rfl
    simp only [nthO, Act.put, List.setIfInBounds_toArray, List.set_cons_zero, List.set_cons_succ]
    refine take_L dOp 20 ?_ (by kernel_rfl) (by kernel_rfl) (by kernel_rfl) (by kernel_rfl) (fun _ _ _ _ _ h => h) (by rfl) hHeld (fun w hSw => ?_) ?_
    rotate_left
    · (try dsimp only at hSw); simp only [nthO]; go_simp; first | done | with_reducible rfl
    simp only [nthO, Act.put, List.setIfInBounds_toArray, List.set_cons_zero, List.set_cons_succ]
    refine take_L dOp 21 ?_ (by kernel_rfl) (by kernel_rfl) (by kernel_rfl) (by kernel_rfl) (fun _ _ _ _ _ h => h) (by rfl) hHeld (fun w hSw => ?_) ?_
    rotate_left
    · (try dsimp only at hSw); simp only [nthO]; go_simp; first | done | with_reducible rfl
    simp only [nthO, Act.put, List.setIfInBounds_toArray, List.set_cons_zero, List.set_cons_succ]
    refine take_L dOp 22 ?_ (by kernel_rfl) (by kernel_rfl) (by kernel_rfl) (by kernel_rfl) (fun _ _ _ _ _ h => h) (by rfl) hHeld (fun w hSw => ?_) ?_
    rotate_left
    · (try dsimp only at hSw); simp only [nthO]; go_simp; first | done | with_reducible rfl
    simp only [nthO, Act.put, List.setIfInBounds_toArray, List.set_cons_zero, List.set_cons_succ]
    refine take_L dOp 24 ?_ (by kernel_rfl) (by kernel_rfl) (by kernel_rfl) (by kernel_rfl) (fun _ _ _ _ _ h => h) (by rfl) hHeld (fun w hSw => ?_) ?_
    rotate_left
    · (try dsimp only at hSw); simp only [nthO]; go_simp; first | done | with_reducible rfl
    simp only [nthO, Act.put, List.setIfInBounds_toArray, List.set_cons_zero, List.set_cons_succ]
    refine take_L dOp 25 ?_ (by kernel_rfl) (by kernel_rfl) (by kernel_rfl) (by kernel_rfl) (fun _ _ _ _ _ h => h) (by rfl) hHeld (fun w hSw => ?_) ?_
    rotate_left
    · (try dsimp only at hSw); simp only [nthO]; go_simp; first | done | with_reducible rfl
    simp only [nthO, Act.put, List.setIfInBounds_toArray, List.set_cons_zero, List.set_cons_succ]
    refine take_L dOp 26 ?_ (by kernel_rfl) (by kernel_rfl) (by kernel_rfl) (by kernel_rfl) (fun _ _ _ _ _ h => h) (by rfl) hHeld (fun w hSw => ?_) ?_
    rotate_left
    · (try dsimp only at hSw); simp only [nthO]; go_simp; first | done | with_reducible rfl
    simp only [nthO, Act.put, List.setIfInBounds_toArray, List.set_cons_zero, List.set_cons_succ]
    refine take_L dOp 27 ?_ (by kernel_rfl) (by kernel_rfl) (by kernel_rfl) (by kernel_rfl) (fun _ _ _ _ _ h => h) (by rfl) hHeld (fun w hSw => ?_) ?_
    rotate_left
    · (try dsimp only at hSw); simp only [nthO]; go_simp; first | done | with_reducible rfl
    simp only [nthO, Act.put, List.setIfInBounds_toArray, List.set_cons_zero, List.set_cons_succ]
    refine one_L dOp 23 (by kernel_rfl) (by kernel_rfl) (fun K hK => ?_)
    simp only [nthO]
    go_simp
    first
      | (go_at_call 125; refine (cO.out _ _ ?_ (by first | exact .inl rfl | exact .inr rfl)).mono ?_; (· first | (with_reducible assumption) | (apply And.right; with_reducible assumption)); rintro r wA ⟨pv, cv, rfl, hA1, bA⟩; have mA := HF.out wA bA; have HA1 : Hid _ := hA1; clear hA1)
      | go_wp2_with (go_at_call 125; refine (cO.out _ _ ?_ (by first | exact .inl rfl | exact .inr rfl)).mono ?_; (· first | (with_reducible assumption) | (apply And.right; with_reducible assumption)); rintro r wA ⟨pv, cv, rfl, hA1, bA⟩; have mA := HF.out wA bA; have HA1 : Hid _ := hA1; clear hA1)
    try go_wp2_with fail
    refine hK.out _ _ ?_ (fun hHeld2 => ?_)
    · (try dsimp only); exact ⟨by first | (with_reducible assumption) | exact HMD.out, by first | (with_reducible assumption)⟩
    clear hK K hHeld; have hHeld := hHeld2; clear hHeld2
    try simp only [Act.put, List.setIfInBounds_toArray, List.set_cons_zero, List.set_cons_succ]
    refine one_L dOp 28 (by kernel_rfl) (by kernel_rfl) (fun K hK => ?_)
    simp only [nthO]
    go_simp
    first
      | (go_at_call 9; refine (cS.out _ _ _ bA HA1.out).mono ?_; rintro r wB ⟨rfl, bB⟩; have mB := HF.out wB bB)
      | go_wp2_with (go_at_call 9; refine (cS.out _ _ _ bA HA1.out).mono ?_; rintro r wB ⟨rfl, bB⟩; have mB := HF.out wB bB)
    try go_wp2_with fail
    refine hK.out _ _ ?_ (fun hHeld2 => ?_)
    · (try dsimp only); exact ⟨by first | (with_reducible assumption) | exact HMD.out, by first | (with_reducible assumption)⟩
    clear hK K hHeld; have hHeld := hHeld2; clear hHeld2
    try simp only [Act.put, List.setIfInBounds_toArray, List.set_cons_zero, List.set_cons_succ]
    refine take_L dOp 29 ?_ (by kernel_rfl) (by kernel_rfl) (by kernel_rfl) (by kernel_rfl) (fun _ _ _ _ _ h => h) (by rfl) hHeld (fun w hSw => ?_) ?_
    rotate_left
    · (try dsimp only at hSw); simp only [nthO]; go_simp; first | done | with_reducible rfl
    simp only [nthO, Act.put, List.setIfInBounds_toArray, List.set_cons_zero, List.set_cons_succ]
    refine take_L dOp 30 ?_ (by kernel_rfl) (by kernel_rfl) (by kernel_rfl) (by kernel_rfl) (fun _ _ _ _ _ h => h) (by rfl) hHeld (fun w hSw => ?_) ?_
    rotate_left
    · (try dsimp only at hSw); simp only [nthO]; go_simp; first | done | with_reducible rfl
    simp only [nthO, Act.put, List.setIfInBounds_toArray, List.set_cons_zero, List.set_cons_succ]
    refine wpAnyH_done (by kernel_rfl) ?_ _
    have hcl := HI.out.2.1
    gi_wp2
    refine ⟨trivial, (CallsIn.inRound l (callsIn_wide.2 (cM.out _ bB))).mono ?_⟩
    rintro r wC ⟨p', l', c', rfl, hp', bC⟩
    obtain ⟨f0, f1, f2, -, f4, -, -, -, -, -, -⟩ := HF.out wC bC
    have fz : wC.frozen? ⟨K0, 0, none⟩ = false := frozen_of_heap (heap_below bC hcl) 0
    have HB := Hid.mk7 bC
    clear cM cS cO HF HMD bd bA bB mA mB HA1 hcl
    by_cases hl0 : l' = 0
    · subst hl0
      clear hp' HA
      have h0 : ¬ ((0 : Int) < ((0 : Nat) : Int)) := by decide
      clear bC
      gi_wp2
      gi_loopw [13, 92] (fun _ i wr => i = .int .i64 0 ∧ Hid (wr = wC)) (fun _ _ _ => 0)
      case atStart => exact ⟨rfl, rfl⟩
      case round =>
        obtain ⟨rfl, hwr⟩ := hrel
        obtain rfl := hwr.out
        clear hwr
        gi_wp2
        exact each_fin0 HI.out.1 HI.out.2.1 HI.out.2.2.1 HI.out.2.2.2.1 HB.out
    · obtain ⟨rfl, rfl, rfl⟩ : ps = p' ∧ m = l' ∧ cs = c' := by
        rcases hp' with h | h
        · exact ⟨h.1.symm, h.2.1.symm, h.2.2.symm⟩
        · exact absurd h.2.1 hl0
      obtain ⟨ga, rfl, hg1, hg2, cur, hg3, hg4⟩ := HA.out wC bC (by omega)
      have HG : Hid (xlo ≤ ga ∧ ga < xhi ∧ wC.heap[ga]? = some (.cells cur 45 (0, 0)) ∧ m * 4 ≤ cur.size) := ⟨hg1, hg2, hg3, hg4⟩
      have HC := Hid.mk7 (And.intro f2 fz)
      clear hp' HA bC hg1 hg2 hg3 hg4
      gi_wp2
      gi_loopw [13, 92] (fun _ i wr => ∃ j : Nat, j ≤ m ∧ i = .int .i64 j ∧ Hid (Out ga (ga + 1) wC wr ∧ KeepsOthers wC wr)) (fun _ i _ => m - (RowKit.intOf i).toNat)
      case atStart => exact ⟨0, Nat.zero_le _, rfl, Out.refl _ _ _, KeepsOthers.refl _⟩
      case round =>
        clear f0 f1 f2 f4 fz
        obtain ⟨j, hj, rfl, HO⟩ := hrel
        by_cases hlt : j < m
        · have hltI : (j : Int) < (m : Int) := by omega
          obtain ⟨cur', hb, hs⟩ := HO.out.1.shape ga cur _ _ HG.out.2.2.1 (by omega)
          have hsz : m * 4 ≤ cur'.size := by rw [hs]; exact HG.out.2.2.2
          obtain ⟨u0', e0⟩ := cell_at hb (j * 4) (by omega)
          obtain ⟨u1', e1⟩ := cell_at hb (j * 4 + 1) (by omega)
          obtain ⟨u2', e2⟩ := cell_at hb (j * 4 + 2) (by omega)
          obtain ⟨u3', e3⟩ := cell_at hb (j * 4 + 3) (by omega)
          have z0 := frozen_of_row wr ga (j * 4) cur' _ hb
          have z1 := frozen_of_row wr ga (j * 4 + 1) cur' _ hb
          have z2 := frozen_of_row wr ga (j * 4 + 2) cur' _ hb
          have z3 := frozen_of_row wr ga (j * 4 + 3) cur' _ hb
          clear hb hs hsz
          gi_wp2
          go_roundw
          case rel => exact ⟨j + 1, by omega, by go_num, out_set4 HO.out.1 (Nat.le_refl _) (Nat.lt_succ_self _) _ _ _ _ _ _ _ _, (((HO.out.2.trans (KeepsOthers.setCell _ _ _)).trans (KeepsOthers.setCell _ _ _)).trans (KeepsOthers.setCell _ _ _)).trans (KeepsOthers.setCell _ _ _)⟩
          case measure => simp [RowKit.intOf]; omega
        · have hltI : ¬ (j : Int) < (m : Int) := by omega
          have hkg : K0 < ga := by have := HI.out; have := HG.out; omega
          have hbk := HO.out.1.block K0 (lt_of_cell HC.out.1) (Or.inl hkg)
          have f2 : wr.cell? ⟨K0, 0, none⟩ = some (.int .i64 (k : Nat)) := (World.cell?_of_block (a := ⟨K0, 0, none⟩) hbk).trans HC.out.1
          have fz : wr.frozen? ⟨K0, 0, none⟩ = false := frozen_of_heap ((hbk).trans (heap_below HB.out HI.out.2.1)) 0
          gi_wp2
          exact each_fin (x := (_, xlo, xhi)) HI.out.1 HI.out.2.1 HI.out.2.2.1 HI.out.2.2.2.1 HB.out HO.out.1 HO.out.2 HG.out.1 HG.out.2.1 HI.out.2.2.2.2.2.2 (by have := HI.out; show K0 < xlo; omega) ⟨cur, HG.out.2.2.1⟩
  · have cO : Hid (∀ (W' : World) (s' : Value), Below W.heap.size W W' → (s' = .slice ps e.A.length cs ∨ s' = .slice psa e.A.length csa) → Calls Tryz.prog 127 #[.agg #[s', .string e.t, valP e.v]] W' fun r w' => ∃ pv cv, r = .returned (opV e (.slice pv e.A.length cv)) ∧ RN w' (.slice pv e.A.length cv) e.A ∧ Below W.heap.size W w') := fun W' s' hW hs => (opQ_2 hge hq s' W' (hs' W' s' hW hs) (by omega)).mono fun r w' ⟨v', h1, h2, h3⟩ => by
      obtain ⟨q, c', e1, _⟩ := (own_RN h2).row.val
      subst e1
      exact ⟨q, c', h1, own_RN h2, hW.trans (h3.mono hW.size)⟩
    rw [pieceQ_2 hq] at HF cM HMD ⊢
    obtain ⟨VP, hNN⟩ : ∃ N, valP e.v = N := ⟨_, rfl⟩
    simp only [hNN] at cO HF cM HMD ⊢
    clear hNN
    obtain ⟨m, hm⟩ : ∃ m, e.A.length = m := ⟨_, rfl⟩
    rw [hm] at hcs hae HMD
    simp only [hm] at cO HF cM cS HA ⊢
    have HRR : Hid (e.A.length = m) := hm
    clear hs' hm HR hge hq hin hrn hrna hcell hop hw he hN hB hk hK0 hK1 hlo hhi hB0 hco hkn cK
    gi_wp2
    refine region_round_held (S := (fun w' => (w'.cell? ⟨O, 0, none⟩ = some (.slice (some ⟨b, off, none⟩) n co) ∧ w'.cell? ⟨Ab, 0, none⟩ = some (.slice (some ⟨g, 0, none⟩) n ca) ∧ w'.cell? ⟨K0, 0, none⟩ = some (.int .i64 (k : Nat)) ∧ w'.cell? ⟨g, k, none⟩ = some (.iface 75 (.agg #[.slice psa m csa, .string e.t, VP])) ∧ w'.cell? ⟨b, off + k * 7, none⟩ = some (.int .i64 e.k) ∧ w'.cell? ⟨b, off + k * 7 + 1, none⟩ = some (.string e.t) ∧ w'.cell? ⟨b, off + k * 7 + 2, none⟩ = some (.int .i64 e.v.1) ∧ w'.cell? ⟨b, off + k * 7 + 3, none⟩ = some (.int .i64 e.v.2.1) ∧ w'.cell? ⟨b, off + k * 7 + 4, none⟩ = some (.string e.v.2.2) ∧ w'.cell? ⟨b, off + k * 7 + 5, none⟩ = some (.int .i64 e.c) ∧ w'.cell? ⟨b, off + k * 7 + 6, none⟩ = some (.slice p m c)) ∧ Below W.heap.size W w')) (by kernel_rfl) (by kernel_rfl) (fun ⟨_, _, h⟩ => h) ?_ (fun hHeld => ?_)
    · (try dsimp only); exact ⟨by first | (with_reducible assumption) | exact HMD.out, by first | (with_reducible assumption)⟩
    refine take_L dOp 0 ?_ (by kernel_rfl) (by kernel_rfl) (by kernel_rfl) (by kernel_rfl) (fun _ _ _ _ _ h => h) (by rfl) hHeld (fun w hSw => ?_) ?_
    rotate_left
    · (try dsimp only at hSw); simp only [nthO]; go_simp; first | done | with_reducible rfl
    simp only [nthO, Act.put, List.setIfInBounds_toArray, List.set_cons_zero, List.set_cons_succ]
    refine take_L dOp 1 ?_ (by kernel_rfl) (by kernel_rfl) (by kernel_rfl) (by kernel_rfl) (fun _ _ _ _ _ h => h) (by rfl) hHeld (fun w hSw => ?_) ?_
    rotate_left
    · (try dsimp only at hSw); simp only [nthO]; go_simp; first | done | with_reducible rfl
    simp only [nthO, Act.put, List.setIfInBounds_toArray, List.set_cons_zero, List.set_cons_succ]
    refine take_L dOp 2 ?_ (by kernel_rfl) (by kernel_rfl) (by kernel_rfl) (by kernel_rfl) (fun _ _ _ _ _ h => h) (by rfl) hHeld (fun w hSw => ?_) ?_
    rotate_left
    · (try dsimp only at hSw); simp only [nthO]; go_simp; first | done | with_reducible rfl
    simp only [nthO, Act.put, List.setIfInBounds_toArray, List.set_cons_zero, List.set_cons_succ]
    refine take_L dOp 3 ?_ (by kernel_rfl) (by kernel_rfl) (by kernel_rfl) (by kernel_rfl) (fun _ _ _ _ _ h => h) (by rfl) hHeld (fun w hSw => ?_) ?_
    rotate_left
    · (try dsimp only at hSw); simp only [nthO]; go_simp; first | done | with_reducible rfl
    simp only [nthO, Act.put, List.setIfInBounds_toArray, List.set_cons_zero, List.set_cons_succ]
    refine take_L dOp 4 ?_ (by kernel_rfl) (by kernel_rfl) (by kernel_rfl) (by kernel_rfl) (fun _ _ _ _ _ h => h) (by rfl) hHeld (fun w hSw => ?_) ?_
    rotate_left
    · (try dsimp only at hSw); simp only [nthO]; go_simp; first | done | with_reducible rfl
    simp only [nthO, Act.put, List.setIfInBounds_toArray, List.set_cons_zero, List.set_cons_succ]
    refine take_L dOp 5 ?_ (by kernel_rfl) (by kernel_rfl) (by kernel_rfl) (by kernel_rfl) (fun _ _ _ _ _ h => h) (by rfl) hHeld (fun w hSw => ?_) ?_
    rotate_left
    · (try dsimp only at hSw); simp only [nthO]; go_simp; first | done | with_reducible rfl
    simp only [nthO, Act.put, List.setIfInBounds_toArray, List.set_cons_zero, List.set_cons_succ]
    refine take_L dOp 6 ?_ (by kernel_rfl) (by kernel_rfl) (by kernel_rfl) (by kernel_rfl) (fun _ _ _ _ _ h => h) (by rfl) hHeld (fun w hSw => ?_) ?_
    rotate_left
    · (try dsimp only at hSw); simp only [nthO]; go_simp; first | done | with_reducible rfl
    simp only [nthO, Act.put, List.setIfInBounds_toArray, List.set_cons_zero, List.set_cons_succ]
    refine take_L dOp 7 ?_ (by kernel_rfl) (by kernel_rfl) (by kernel_rfl) (by kernel_rfl) (fun _ _ _ _ _ h => h) (by rfl) hHeld (fun w hSw => ?_) ?_
    rotate_left
    · (try dsimp only at hSw); simp only [nthO]; go_simp; first | done | with_reducible rfl
    simp only [nthO, Act.put, List.setIfInBounds_toArray, List.set_cons_zero, List.set_cons_succ]
    refine take_L dOp 8 ?_ (by kernel_rfl) (by kernel_rfl) (by kernel_rfl) (by kernel_rfl) (fun _ _ _ _ _ h => h) (by rfl) hHeld (fun w hSw => ?_) ?_
    rotate_left
    · (try dsimp only at hSw); simp only [nthO]; go_simp; first | done | with_reducible rfl
    simp only [nthO, Act.put, List.setIfInBounds_toArray, List.set_cons_zero, List.set_cons_succ]
    refine take_L dOp 9 ?_ (by kernel_rfl) (by kernel_rfl) (by kernel_rfl) (by kernel_rfl) (fun _ _ _ _ _ h => h) (by rfl) hHeld (fun w hSw => ?_) ?_
    rotate_left
    · (try dsimp only at hSw); simp only [nthO]; go_simp; first | done | with_reducible rfl
    simp only [nthO, Act.put, List.setIfInBounds_toArray, List.set_cons_zero, List.set_cons_succ]
    refine take_L dOp 11 ?_ (by kernel_rfl) (by kernel_rfl) (by kernel_rfl) (by kernel_rfl) (fun _ _ _ _ _ h => h) (by rfl) hHeld (fun w hSw => ?_) ?_
    rotate_left
    · (try dsimp only at hSw); simp only [nthO]; go_simp; first | done | with_reducible rfl
    simp only [nthO, Act.put, List.setIfInBounds_toArray, List.set_cons_zero, List.set_cons_succ]
    refine take_L dOp 12 ?_ (by kernel_rfl) (by kernel_rfl) (by kernel_rfl) (by kernel_rfl) (fun _ _ _ _ _ h => h) (by rfl) hHeld (fun w hSw => ?_) ?_
    rotate_left
    · (try dsimp only at hSw); simp only [nthO]; go_simp; first | done | with_reducible rfl
    simp only [nthO, Act.put, List.setIfInBounds_toArray, List.set_cons_zero, List.set_cons_succ]
    refine take_L dOp 13 ?_ (by kernel_rfl) (by kernel_rfl) (by kernel_rfl) (by kernel_rfl) (fun _ _ _ _ _ h => h) (by rfl) hHeld (fun w hSw => ?_) ?_
    rotate_left
    · (try dsimp only at hSw); simp only [nthO]; go_simp; first | done | with_reducible rfl
    simp only [nthO, Act.put, List.setIfInBounds_toArray, List.set_cons_zero, List.set_cons_succ]
    refine take_L dOp 14 ?_ (by kernel_rfl) (by kernel_rfl) (by kernel_rfl) (by kernel_rfl) (fun _ _ _ _ _ h => h) (by rfl) hHeld (fun w hSw => ?_) ?_
    rotate_left
    · (try dsimp only at hSw); simp only [nthO]; go_simp; first | done | with_reducible rfl
    simp only [nthO, Act.put, List.setIfInBounds_toArray, List.set_cons_zero, List.set_cons_succ]
    refine one_L dOp 10 (by kernel_rfl) (by kernel_rfl) (fun K hK => ?_)
    simp only [nthO]
    go_simp
    first
      | (go_at_call 127; refine (cO.out _ _ ?_ (by first | exact .inl rfl | exact .inr rfl)).mono ?_; (· first | (with_reducible assumption) | (apply And.right; with_reducible assumption)); rintro r wA ⟨pv, cv, rfl, hA1, bA⟩; have mA := HF.out wA bA; have HA1 : Hid _ := hA1; clear hA1)
      | go_wp2_with (go_at_call 127; refine (cO.out _ _ ?_ (by first | exact .inl rfl | exact .inr rfl)).mono ?_; (· first | (with_reducible assumption) | (apply And.right; with_reducible assumption)); rintro r wA ⟨pv, cv, rfl, hA1, bA⟩; have mA := HF.out wA bA; have HA1 : Hid _ := hA1; clear hA1)
    try go_wp2_with fail
    refine hK.out _ _ ?_ (fun hHeld2 => ?_)
    · (try dsimp only); exact ⟨by first | (with_reducible assumption) | exact HMD.out, by first | (with_reducible assumption)⟩
    clear hK K hHeld; have hHeld := hHeld2; clear hHeld2
    try simp only [Act.put, List.setIfInBounds_toArray, List.set_cons_zero, List.set_cons_succ]
    refine one_L dOp 15 (by kernel_rfl) (by kernel_rfl) (fun K hK => ?_)
    simp only [nthO]
    go_simp
    first
      | (go_at_call 9; refine (cS.out _ _ _ bA HA1.out).mono ?_; rintro r wB ⟨rfl, bB⟩; have mB := HF.out wB bB)
      | go_wp2_with (go_at_call 9; refine (cS.out _ _ _ bA HA1.out).mono ?_; rintro r wB ⟨rfl, bB⟩; have mB := HF.out wB bB)
    try go_wp2_with fail
    refine hK.out _ _ ?_ (fun hHeld2 => ?_)
    · (try dsimp only); exact ⟨by first | (with_reducible assumption) | exact HMD.out, by first | (with_reducible assumption)⟩
    clear hK K hHeld; have hHeld := hHeld2; clear hHeld2
    try simp only [Act.put, List.setIfInBounds_toArray, List.set_cons_zero, List.set_cons_succ]
    refine take_L dOp 16 ?_ (by kernel_rfl) (by kernel_rfl) (by kernel_rfl) (by kernel_rfl) (fun _ _ _ _ _ h => h) (by rfl) hHeld (fun w hSw => ?_) ?_
    rotate_left
    · (try dsimp only at hSw); simp only [nthO]; go_simp; first | done | with_reducible rfl
    simp only [nthO, Act.put, List.setIfInBounds_toArray, List.set_cons_zero, List.set_cons_succ]
    refine take_L dOp 17 ?_ (by kernel_rfl) (by kernel_rfl) (by kernel_rfl) (by kernel_rfl) (fun _ _ _ _ _ h => h) (by rfl) hHeld (fun w hSw => ?_) ?_
    rotate_left
    · (try dsimp only at hSw); simp only [nthO]; go_simp; first | done | with_reducible rfl
    simp only [nthO, Act.put, List.setIfInBounds_toArray, List.set_cons_zero, List.set_cons_succ]
    refine take_L dOp 18 ?_ (by kernel_rfl) (by kernel_rfl) (by kernel_rfl) (by kernel_rfl) (fun _ _ _ _ _ h => h) (by rfl) hHeld (fun w hSw => ?_) ?_
    rotate_left
    · (try dsimp only at hSw); simp only [nthO]; go_simp; first | done | with_reducible rfl
    simp only [nthO, Act.put, List.setIfInBounds_toArray, List.set_cons_zero, List.set_cons_succ]
    refine take_L dOp 19 ?_ (by kernel_rfl) (by kernel_rfl) (by kernel_rfl) (by kernel_rfl) (fun _ _ _ _ _ h => h) (by rfl) hHeld (fun w hSw => ?_) ?_
    rotate_left
    · (try dsimp only at hSw); simp only [nthO]; go_simp; first | done | with_reducible rfl
    simp only [nthO, Act.put, List.setIfInBounds_toArray, List.set_cons_zero, List.set_cons_succ]
    refine take_L dOp 20 ?_ (by kernel_rfl) (by kernel_rfl) (by kernel_rfl) (by kernel_rfl) (fun _ _ _ _ _ h => h) (by rfl) hHeld (fun w hSw => ?_) ?_
    rotate_left
    · (try dsimp only at hSw); simp only [nthO]; go_simp; first | done | with_reducible rfl
    simp only [nthO, Act.put, List.setIfInBounds_toArray, List.set_cons_zero, List.set_cons_succ]
    refine take_L dOp 21 ?_ (by kernel_rfl) (by kernel_rfl) (by kernel_rfl) (by kernel_rfl) (fun _ _ _ _ _ h => h) (by rfl) hHeld (fun w hSw => ?_) ?_
    rotate_left
    · (try dsimp only at hSw); simp only [nthO]; go_simp; first | done | with_reducible rfl
    simp only [nthO, Act.put, List.setIfInBounds_toArray, List.set_cons_zero, List.set_cons_succ]
    refine take_L dOp 22 ?_ (by kernel_rfl) (by kernel_rfl) (by kernel_rfl) (by kernel_rfl) (fun _ _ _ _ _ h => h) (by rfl) hHeld (fun w hSw => ?_) ?_
    rotate_left
    · (try dsimp only at hSw); simp only [nthO]; go_simp; first | done | with_reducible rfl
    simp only [nthO, Act.put, List.setIfInBounds_toArray, List.set_cons_zero, List.set_cons_succ]
    refine take_L dOp 24 ?_ (by kernel_rfl) (by kernel_rfl) (by kernel_rfl) (by kernel_rfl) (fun _ _ _ _ _ h => h) (by rfl) hHeld (fun w hSw => ?_) ?_
    rotate_left
    · (try dsimp only at hSw); simp only [nthO]; go_simp; first | done | with_reducible rfl
    simp only [nthO, Act.put, List.setIfInBounds_toArray, List.set_cons_zero, List.set_cons_succ]
    refine take_L dOp 25 ?_ (by kernel_rfl) (by kernel_rfl) (by kernel_rfl) (by kernel_rfl) (fun _ _ _ _ _ h => h) (by rfl) hHeld (fun w hSw => ?_) ?_
    rotate_left
    · (try dsimp only at hSw); simp only [nthO]; go_simp; first | done | with_reducible rfl
    simp only [nthO, Act.put, List.setIfInBounds_toArray, List.set_cons_zero, List.set_cons_succ]
    refine take_L dOp 26 ?_ (by kernel_rfl) (by kernel_rfl) (by kernel_rfl) (by kernel_rfl) (fun _ _ _ _ _ h => h) (by rfl) hHeld (fun w hSw => ?_) ?_
    rotate_left
    · (try dsimp only at hSw); simp only [nthO]; go_simp; first | done | with_reducible rfl
    simp only [nthO, Act.put, List.setIfInBounds_toArray, List.set_cons_zero, List.set_cons_succ]
    refine take_L dOp 27 ?_ (by kernel_rfl) (by kernel_rfl) (by kernel_rfl) (by kernel_rfl) (fun _ _ _ _ _ h => h) (by rfl) hHeld (fun w hSw => ?_) ?_
    rotate_left
    · (try dsimp only at hSw); simp only [nthO]; go_simp; first | done | with_reducible rfl
    simp only [nthO, Act.put, List.setIfInBounds_toArray, List.set_cons_zero, List.set_cons_succ]
    refine one_L dOp 23 (by kernel_rfl) (by kernel_rfl) (fun K hK => ?_)
    simp only [nthO]
    go_simp
    first
      | (go_at_call 127; refine (cO.out _ _ ?_ (by first | exact .inl rfl | exact .inr rfl)).mono ?_; (· first | (with_reducible assumption) | (apply And.right; with_reducible assumption)); rintro r wA ⟨pv, cv, rfl, hA1, bA⟩; have mA := HF.out wA bA; have HA1 : Hid _ := hA1; clear hA1)
      | go_wp2_with (go_at_call 127; refine (cO.out _ _ ?_ (by first | exact .inl rfl | exact .inr rfl)).mono ?_; (· first | (with_reducible assumption) | (apply And.right; with_reducible assumption)); rintro r wA ⟨pv, cv, rfl, hA1, bA⟩; have mA := HF.out wA bA; have HA1 : Hid _ := hA1; clear hA1)
    try go_wp2_with fail
    refine hK.out _ _ ?_ (fun hHeld2 => ?_)
    · (try dsimp only); exact ⟨by first | (with_reducible assumption) | exact HMD.out, by first | (with_reducible assumption)⟩
    clear hK K hHeld; have hHeld := hHeld2; clear hHeld2
    try simp only [Act.put, List.setIfInBounds_toArray, List.set_cons_zero, List.set_cons_succ]
    refine one_L dOp 28 (by kernel_rfl) (by kernel_rfl) (fun K hK => ?_)
    simp only [nthO]
    go_simp
    first
      | (go_at_call 9; refine (cS.out _ _ _ bA HA1.out).mono ?_; rintro r wB ⟨rfl, bB⟩; have mB := HF.out wB bB)
      | go_wp2_with (go_at_call 9; refine (cS.out _ _ _ bA HA1.out).mono ?_; rintro r wB ⟨rfl, bB⟩; have mB := HF.out wB bB)
    try go_wp2_with fail
    refine hK.out _ _ ?_ (fun hHeld2 => ?_)
    · (try dsimp only); exact ⟨by first | (with_reducible assumption) | exact HMD.out, by first | (with_reducible assumption)⟩
    clear hK K hHeld; have hHeld := hHeld2; clear hHeld2
    try simp only [Act.put, List.setIfInBounds_toArray, List.set_cons_zero, List.set_cons_succ]
    refine take_L dOp 29 ?_ (by kernel_rfl) (by kernel_rfl) (by kernel_rfl) (by kernel_rfl) (fun _ _ _ _ _ h => h) (by rfl) hHeld (fun w hSw => ?_) ?_
    rotate_left
    · (try dsimp only at hSw); simp only [nthO]; go_simp; first | done | with_reducible rfl
    simp only [nthO, Act.put, List.setIfInBounds_toArray, List.set_cons_zero, List.set_cons_succ]
    refine take_L dOp 30 ?_ (by kernel_rfl) (by kernel_rfl) (by kernel_rfl) (by kernel_rfl) (fun _ _ _ _ _ h => h) (by rfl) hHeld (fun w hSw => ?_) ?_
    rotate_left
    · (try dsimp only at hSw); simp only [nthO]; go_simp; first | done | with_reducible rfl
    simp only [nthO, Act.put, List.setIfInBounds_toArray, List.set_cons_zero, List.set_cons_succ]
    refine wpAnyH_done (by kernel_rfl) ?_ _
    have hcl := HI.out.2.1
    gi_wp2
    refine ⟨trivial, (CallsIn.inRound l (callsIn_wide.2 (cM.out _ bB))).mono ?_⟩
    rintro r wC ⟨p', l', c', rfl, hp', bC⟩
    obtain ⟨f0, f1, f2, -, f4, -, -, -, -, -, -⟩ := HF.out wC bC
    have fz : wC.frozen? ⟨K0, 0, none⟩ = false := frozen_of_heap (heap_below bC hcl) 0
    have HB := Hid.mk7 bC
    clear cM cS cO HF HMD bd bA bB mA mB HA1 hcl
    by_cases hl0 : l' = 0
    · subst hl0
      clear hp' HA
      have h0 : ¬ ((0 : Int) < ((0 : Nat) : Int)) := by decide
      clear bC
      gi_wp2
      gi_loopw [13, 92] (fun _ i wr => i = .int .i64 0 ∧ Hid (wr = wC)) (fun _ _ _ => 0)
      case atStart => exact ⟨rfl, rfl⟩
      case round =>
        obtain ⟨rfl, hwr⟩ := hrel
        obtain rfl := hwr.out
        clear hwr
        gi_wp2
        exact each_fin0 HI.out.1 HI.out.2.1 HI.out.2.2.1 HI.out.2.2.2.1 HB.out
    · obtain ⟨rfl, rfl, rfl⟩ : ps = p' ∧ m = l' ∧ cs = c' := by
        rcases hp' with h | h
        · exact ⟨h.1.symm, h.2.1.symm, h.2.2.symm⟩
        · exact absurd h.2.1 hl0
      obtain ⟨ga, rfl, hg1, hg2, cur, hg3, hg4⟩ := HA.out wC bC (by omega)
      have HG : Hid (xlo ≤ ga ∧ ga < xhi ∧ wC.heap[ga]? = some (.cells cur 45 (0, 0)) ∧ m * 4 ≤ cur.size) := ⟨hg1, hg2, hg3, hg4⟩
      have HC := Hid.mk7 (And.intro f2 fz)
      clear hp' HA bC hg1 hg2 hg3 hg4
      gi_wp2
      gi_loopw [13, 92] (fun _ i wr => ∃ j : Nat, j ≤ m ∧ i = .int .i64 j ∧ Hid (Out ga (ga + 1) wC wr ∧ KeepsOthers wC wr)) (fun _ i _ => m - (RowKit.intOf i).toNat)
      case atStart => exact ⟨0, Nat.zero_le _, rfl, Out.refl _ _ _, KeepsOthers.refl _⟩
      case round =>
        clear f0 f1 f2 f4 fz
        obtain ⟨j, hj, rfl, HO⟩ := hrel
        by_cases hlt : j < m
        · have hltI : (j : Int) < (m : Int) := by omega
          obtain ⟨cur', hb, hs⟩ := HO.out.1.shape ga cur _ _ HG.out.2.2.1 (by omega)
          have hsz : m * 4 ≤ cur'.size := by rw [hs]; exact HG.out.2.2.2
          obtain ⟨u0', e0⟩ := cell_at hb (j * 4) (by omega)
          obtain ⟨u1', e1⟩ := cell_at hb (j * 4 + 1) (by omega)
          obtain ⟨u2', e2⟩ := cell_at hb (j * 4 + 2) (by omega)
          obtain ⟨u3', e3⟩ := cell_at hb (j * 4 + 3) (by omega)
          have z0 := frozen_of_row wr ga (j * 4) cur' _ hb
          have z1 := frozen_of_row wr ga (j * 4 + 1) cur' _ hb
          have z2 := frozen_of_row wr ga (j * 4 + 2) cur' _ hb
          have z3 := frozen_of_row wr ga (j * 4 + 3) cur' _ hb
          clear hb hs hsz
          gi_wp2
          go_roundw
          case rel => exact ⟨j + 1, by omega, by go_num, out_set4 HO.out.1 (Nat.le_refl _) (Nat.lt_succ_self _) _ _ _ _ _ _ _ _, (((HO.out.2.trans (KeepsOthers.setCell _ _ _)).trans (KeepsOthers.setCell _ _ _)).trans (KeepsOthers.setCell _ _ _)).trans (KeepsOthers.setCell _ _ _)⟩
          case measure => simp [RowKit.intOf]; omega
        · have hltI : ¬ (j : Int) < (m : Int) := by omega
          have hkg : K0 < ga := by have := HI.out; have := HG.out; omega
          have hbk := HO.out.1.block K0 (lt_of_cell HC.out.1) (Or.inl hkg)
          have f2 : wr.cell? ⟨K0, 0, none⟩ = some (.int .i64 (k : Nat)) := (World.cell?_of_block (a := ⟨K0, 0, none⟩) hbk).trans HC.out.1
          have fz : wr.frozen? ⟨K0, 0, none⟩ = false := frozen_of_heap ((hbk).trans (heap_below HB.out HI.out.2.1)) 0
          gi_wp2
          exact each_fin (x := (_, xlo, xhi)) HI.out.1 HI.out.2.1 HI.out.2.2.1 HI.out.2.2.2.1 HB.out HO.out.1 HO.out.2 HG.out.1 HG.out.2.1 HI.out.2.2.2.2.2.2 (by have := HI.out; show K0 < xlo; omega) ⟨cur, HG.out.2.2.1⟩
  · have cO : Hid (∀ (W' : World) (s' : Value), Below W.heap.size W W' → (s' = .slice ps e.A.length cs ∨ s' = .slice psa e.A.length csa) → Calls Tryz.prog 129 #[.agg #[s', .int .i64 e.c]] W' fun r w' => ∃ pv cv, r = .returned (opV e (.slice pv e.A.length cv)) ∧ RN w' (.slice pv e.A.length cv) e.A ∧ Below W.heap.size W w') := fun W' s' hW hs => (opQ_3 hge hq s' W' (hs' W' s' hW hs) (by omega)).mono fun r w' ⟨v', h1, h2, h3⟩ => by
      obtain ⟨q, c', e1, _⟩ := (own_RN h2).row.val
      subst e1
      exact ⟨q, c', h1, own_RN h2, hW.trans (h3.mono hW.size)⟩
    rw [pieceQ_3 hq] at HF cM HMD ⊢
    obtain ⟨m, hm⟩ : ∃ m, e.A.length = m := ⟨_, rfl⟩
    rw [hm] at hcs hae HMD
    simp only [hm] at cO HF cM cS HA ⊢
    have HRR : Hid (e.A.length = m) := hm
    clear hs' hm HR hge hq hin hrn hrna hcell hop hw he hN hB hk hK0 hK1 hlo hhi hB0 hco hkn cK
    gi_wp2
    refine region_round_held (S := (fun w' => (w'.cell? ⟨O, 0, none⟩ = some (.slice (some ⟨b, off, none⟩) n co) ∧ w'.cell? ⟨Ab, 0, none⟩ = some (.slice (some ⟨g, 0, none⟩) n ca) ∧ w'.cell? ⟨K0, 0, none⟩ = some (.int .i64 (k : Nat)) ∧ w'.cell? ⟨g, k, none⟩ = some (.iface 77 (.agg #[.slice psa m csa, .int .i64 e.c])) ∧ w'.cell? ⟨b, off + k * 7, none⟩ = some (.int .i64 e.k) ∧ w'.cell? ⟨b, off + k * 7 + 1, none⟩ = some (.string e.t) ∧ w'.cell? ⟨b, off + k * 7 + 2, none⟩ = some (.int .i64 e.v.1) ∧ w'.cell? ⟨b, off + k * 7 + 3, none⟩ = some (.int .i64 e.v.2.1) ∧ w'.cell? ⟨b, off + k * 7 + 4, none⟩ = some (.string e.v.2.2) ∧ w'.cell? ⟨b, off + k * 7 + 5, none⟩ = some (.int .i64 e.c) ∧ w'.cell? ⟨b, off + k * 7 + 6, none⟩ = some (.slice p m c)) ∧ Below W.heap.size W w')) (by kernel_rfl) (by kernel_rfl) (fun ⟨_, _, h⟩ => h) ?_ (fun hHeld => ?_)
    · (try dsimp only); exact ⟨by first | (with_reducible assumption) | exact HMD.out, by first | (with_reducible assumption)⟩
    refine take_L dOp 0 ?_ (by kernel_rfl) (by kernel_rfl) (by kernel_rfl) (by kernel_rfl) (fun _ _ _ _ _ h => h) (by rfl) hHeld (fun w hSw => ?_) ?_
    rotate_left
    · (try dsimp only at hSw); simp only [nthO]; go_simp; first | done | with_reducible rfl
    simp only [nthO, Act.put, List.setIfInBounds_toArray, List.set_cons_zero, List.set_cons_succ]
    refine take_L dOp 1 ?_ (by kernel_rfl) (by kernel_rfl) (by kernel_rfl) (by kernel_rfl) (fun _ _ _ _ _ h => h) (by rfl) hHeld (fun w hSw => ?_) ?_
    rotate_left
    · (try dsimp only at hSw); simp only [nthO]; go_simp; first | done | with_reducible rfl
    simp only [nthO, Act.put, List.setIfInBounds_toArray, List.set_cons_zero, List.set_cons_succ]
    refine take_L dOp 2 ?_ (by kernel_rfl) (by kernel_rfl) (by kernel_rfl) (by kernel_rfl) (fun _ _ _ _ _ h => h) (by rfl) hHeld (fun w hSw => ?_) ?_
    rotate_left
    · (try dsimp only at hSw); simp only [nthO]; go_simp; first | done | with_reducible rfl
    simp only [nthO, Act.put, List.setIfInBounds_toArray, List.set_cons_zero, List.set_cons_succ]
    refine take_L dOp 3 ?_ (by kernel_rfl) (by kernel_rfl) (by kernel_rfl) (by kernel_rfl) (fun _ _ _ _ _ h => h) (by rfl) hHeld (fun w hSw => ?_) ?_
    rotate_left
    · (try dsimp only at hSw); simp only [nthO]; go_simp; first | done | with_reducible rfl
    simp only [nthO, Act.put, List.setIfInBounds_toArray, List.set_cons_zero, List.set_cons_succ]
    refine take_L dOp 4 ?_ (by kernel_rfl) (by kernel_rfl) (by kernel_rfl) (by kernel_rfl) (fun _ _ _ _ _ h => h) (by rfl) hHeld (fun w hSw => ?_) ?_
    rotate_left
    · (try dsimp only at hSw); simp only [nthO]; go_simp; first | done | with_reducible rfl
    simp only [nthO, Act.put, List.setIfInBounds_toArray, List.set_cons_zero, List.set_cons_succ]
    refine take_L dOp 5 ?_ (by kernel_rfl) (by kernel_rfl) (by kernel_rfl) (by kernel_rfl) (fun _ _ _ _ _ h => h) (by rfl) hHeld (fun w hSw => ?_) ?_
    rotate_left
    · (try dsimp only at hSw); simp only [nthO]; go_simp; first | done | with_reducible rfl
    simp only [nthO, Act.put, List.setIfInBounds_toArray, List.set_cons_zero, List.set_cons_succ]
    refine take_L dOp 6 ?_ (by kernel_rfl) (by kernel_rfl) (by kernel_rfl) (by kernel_rfl) (fun _ _ _ _ _ h => h) (by rfl) hHeld (fun w hSw => ?_) ?_
    rotate_left
    · (try dsimp only at hSw); simp only [nthO]; go_simp; first | done | with_reducible rfl
    simp only [nthO, Act.put, List.setIfInBounds_toArray, List.set_cons_zero, List.set_cons_succ]
    refine take_L dOp 7 ?_ (by kernel_rfl) (by kernel_rfl) (by kernel_rfl) (by kernel_rfl) (fun _ _ _ _ _ h => h) (by rfl) hHeld (fun w hSw => ?_) ?_
    rotate_left
    · (try dsimp only at hSw); simp only [nthO]; go_simp; first | done | with_reducible rfl
    simp only [nthO, Act.put, List.setIfInBounds_toArray, List.set_cons_zero, List.set_cons_succ]
    refine take_L dOp 8 ?_ (by kernel_rfl) (by kernel_rfl) (by kernel_rfl) (by kernel_rfl) (fun _ _ _ _ _ h => h) (by rfl) hHeld (fun w hSw => ?_) ?_
    rotate_left
    · (try dsimp only at hSw); simp only [nthO]; go_simp; first | done | with_reducible rfl
    simp only [nthO, Act.put, List.setIfInBounds_toArray, List.set_cons_zero, List.set_cons_succ]
    refine take_L dOp 9 ?_ (by kernel_rfl) (by kernel_rfl) (by kernel_rfl) (by kernel_rfl) (fun _ _ _ _ _ h => h) (by rfl) hHeld (fun w hSw => ?_) ?_
    rotate_left
    · (try dsimp only at hSw); simp only [nthO]; go_simp; first | done | with_reducible rfl
    simp only [nthO, Act.put, List.setIfInBounds_toArray, List.set_cons_zero, List.set_cons_succ]
    refine take_L dOp 11 ?_ (by kernel_rfl) (by kernel_rfl) (by kernel_rfl) (by kernel_rfl) (fun _ _ _ _ _ h => h) (by rfl) hHeld (fun w hSw => ?_) ?_
    rotate_left
    · (try dsimp only at hSw); simp only [nthO]; go_simp; first | done | with_reducible rfl
    simp only [nthO, Act.put, List.setIfInBounds_toArray, List.set_cons_zero, List.set_cons_succ]
    refine take_L dOp 12 ?_ (by kernel_rfl) (by kernel_rfl) (by kernel_rfl) (by kernel_rfl) (fun _ _ _ _ _ h => h) (by rfl) hHeld (fun w hSw => ?_) ?_
    rotate_left
    · (try dsimp only at hSw); simp only [nthO]; go_simp; first | done | with_reducible rfl
    simp only [nthO, Act.put, List.setIfInBounds_toArray, List.set_cons_zero, List.set_cons_succ]
    refine take_L dOp 13 ?_ (by kernel_rfl) (by kernel_rfl) (by kernel_rfl) (by kernel_rfl) (fun _ _ _ _ _ h => h) (by rfl) hHeld (fun w hSw => ?_) ?_
    rotate_left
    · (try dsimp only at hSw); simp only [nthO]; go_simp; first | done | with_reducible rfl
    simp only [nthO, Act.put, List.setIfInBounds_toArray, List.set_cons_zero, List.set_cons_succ]
    refine take_L dOp 14 ?_ (by kernel_rfl) (by kernel_rfl) (by kernel_rfl) (by kernel_rfl) (fun _ _ _ _ _ h => h) (by rfl) hHeld (fun w hSw => ?_) ?_
    rotate_left
    · (try dsimp only at hSw); simp only [nthO]; go_simp; first | done | with_reducible rfl
    simp only [nthO, Act.put, List.setIfInBounds_toArray, List.set_cons_zero, List.set_cons_succ]
    refine one_L dOp 10 (by kernel_rfl) (by kernel_rfl) (fun K hK => ?_)
    simp only [nthO]
    go_simp
    first
      | (go_at_call 129; refine (cO.out _ _ ?_ (by first | exact .inl rfl | exact .inr rfl)).mono ?_; (· first | (with_reducible assumption) | (apply And.right; with_reducible assumption)); rintro r wA ⟨pv, cv, rfl, hA1, bA⟩; have mA := HF.out wA bA; have HA1 : Hid _ := hA1; clear hA1)
      | go_wp2_with (go_at_call 129; refine (cO.out _ _ ?_ (by first | exact .inl rfl | exact .inr rfl)).mono ?_; (· first | (with_reducible assumption) | (apply And.right; with_reducible assumption)); rintro r wA ⟨pv, cv, rfl, hA1, bA⟩; have mA := HF.out wA bA; have HA1 : Hid _ := hA1; clear hA1)
    try go_wp2_with fail
    refine hK.out _ _ ?_ (fun hHeld2 => ?_)
    · (try dsimp only); exact ⟨by first | (with_reducible assumption) | exact HMD.out, by first | (with_reducible assumption)⟩
    clear hK K hHeld; have hHeld := hHeld2; clear hHeld2
    try simp only [Act.put, List.setIfInBounds_toArray, List.set_cons_zero, List.set_cons_succ]
    refine one_L dOp 15 (by kernel_rfl) (by kernel_rfl) (fun K hK => ?_)
    simp only [nthO]
    go_simp
    first
      | (go_at_call 9; refine (cS.out _ _ _ bA HA1.out).mono ?_; rintro r wB ⟨rfl, bB⟩; have mB := HF.out wB bB)
      | go_wp2_with (go_at_call 9; refine (cS.out _ _ _ bA HA1.out).mono ?_; rintro r wB ⟨rfl, bB⟩; have mB := HF.out wB bB)
    try go_wp2_with fail
    refine hK.out _ _ ?_ (fun hHeld2 => ?_)
    · (try dsimp only); exact ⟨by first | (with_reducible assumption) | exact HMD.out, by first | (with_reducible assumption)⟩
    clear hK K hHeld; have hHeld := hHeld2; clear hHeld2
    try simp only [Act.put, List.setIfInBounds_toArray, List.set_cons_zero, List.set_cons_succ]
    refine take_L dOp 16 ?_ (by kernel_rfl) (by kernel_rfl) (by kernel_rfl) (by kernel_rfl) (fun _ _ _ _ _ h => h) (by rfl) hHeld (fun w hSw => ?_) ?_
    rotate_left
    · (try dsimp only at hSw); simp only [nthO]; go_simp; first | done | with_reducible rfl
    simp only [nthO, Act.put, List.setIfInBounds_toArray, List.set_cons_zero, List.set_cons_succ]
    refine take_L dOp 17 ?_ (by kernel_rfl) (by kernel_rfl) (by kernel_rfl) (by kernel_rfl) (fun _ _ _ _ _ h => h) (by rfl) hHeld (fun w hSw => ?_) ?_
    rotate_left
    · (try dsimp only at hSw); simp only [nthO]; go_simp; first | done | with_reducible rfl
    simp only [nthO, Act.put, List.setIfInBounds_toArray, List.set_cons_zero, List.set_cons_succ]
    refine take_L dOp 18 ?_ (by kernel_rfl) (by kernel_rfl) (by kernel_rfl) (by kernel_rfl) (fun _ _ _ _ _ h => h) (by rfl) hHeld (fun w hSw => ?_) ?_
    rotate_left
    · (try dsimp only at hSw); simp only [nthO]; go_simp; first | done | with_reducible rfl
    simp only [nthO, Act.put, List.setIfInBounds_toArray, List.set_cons_zero, List.set_cons_succ]
    refine take_L dOp 19 ?_ (by kernel_rfl) (by kernel_rfl) (by kernel_rfl) (by kernel_rfl) (fun _ _ _ _ _ h => h) (by rfl) hHeld (fun w hSw => ?_) ?_
    rotate_left
    · (try dsimp only at hSw); simp only [nthO]; go_simp; first | done | with_reducible rfl
    simp only [nthO, Act.put, List.setIfInBounds_toArray, List.set_cons_zero, List.set_cons_succ]
    refine take_L dOp 20 ?_ (by kernel_rfl) (by kernel_rfl) (by kernel_rfl) (by kernel_rfl) (fun _ _ _ _ _ h => h) (by rfl) hHeld (fun w hSw => ?_) ?_
    rotate_left
    · (try dsimp only at hSw); simp only [nthO]; go_simp; first | done | with_reducible rfl
    simp only [nthO, Act.put, List.setIfInBounds_toArray, List.set_cons_zero, List.set_cons_succ]
    refine take_L dOp 21 ?_ (by kernel_rfl) (by kernel_rfl) (by kernel_rfl) (by kernel_rfl) (fun _ _ _ _ _ h => h) (by rfl) hHeld (fun w hSw => ?_) ?_
    rotate_left
    · (try dsimp only at hSw); simp only [nthO]; go_simp; first | done | with_reducible rfl
    simp only [nthO, Act.put, List.setIfInBounds_toArray, List.set_cons_zero, List.set_cons_succ]
    refine take_L dOp 22 ?_ (by kernel_rfl) (by kernel_rfl) (by kernel_rfl) (by kernel_rfl) (fun _ _ _ _ _ h => h) (by rfl) hHeld (fun w hSw => ?_) ?_
    rotate_left
    · (try dsimp only at hSw); simp only [nthO]; go_simp; first | done | with_reducible rfl
    simp only [nthO, Act.put, List.setIfInBounds_toArray, List.set_cons_zero, List.set_cons_succ]
    refine take_L dOp 24 ?_ (by kernel_rfl) (by kernel_rfl) (by kernel_rfl) (by kernel_rfl) (fun _ _ _ _ _ h => h) (by rfl) hHeld (fun w hSw => ?_) ?_
    rotate_left
    · (try dsimp only at hSw); simp only [nthO]; go_simp; first | done | with_reducible rfl
    simp only [nthO, Act.put, List.setIfInBounds_toArray, List.set_cons_zero, List.set_cons_succ]
    refine take_L dOp 25 ?_ (by kernel_rfl) (by kernel_rfl) (by kernel_rfl) (by kernel_rfl) (fun _ _ _ _ _ h => h) (by rfl) hHeld (fun w hSw => ?_) ?_
    rotate_left
    · (try dsimp only at hSw); simp only [nthO]; go_simp; first | done | with_reducible rfl
    simp only [nthO, Act.put, List.setIfInBounds_toArray, List.set_cons_zero, List.set_cons_succ]
    refine take_L dOp 26 ?_ (by kernel_rfl) (by kernel_rfl) (by kernel_rfl) (by kernel_rfl) (fun _ _ _ _ _ h => h) (by rfl) hHeld (fun w hSw => ?_) ?_
    rotate_left
    · (try dsimp only at hSw); simp only [nthO]; go_simp; first | done | with_reducible rfl
    simp only [nthO, Act.put, List.setIfInBounds_toArray, List.set_cons_zero, List.set_cons_succ]
    refine take_L dOp 27 ?_ (by kernel_rfl) (by kernel_rfl) (by kernel_rfl) (by kernel_rfl) (fun _ _ _ _ _ h => h) (by rfl) hHeld (fun w hSw => ?_) ?_
    rotate_left
    · (try dsimp only at hSw); simp only [nthO]; go_simp; first | done | with_reducible rfl
    simp only [nthO, Act.put, List.setIfInBounds_toArray, List.set_cons_zero, List.set_cons_succ]
    refine one_L dOp 23 (by kernel_rfl) (by kernel_rfl) (fun K hK => ?_)
    simp only [nthO]
    go_simp
    first
      | (go_at_call 129; refine (cO.out _ _ ?_ (by first | exact .inl rfl | exact .inr rfl)).mono ?_; (· first | (with_reducible assumption) | (apply And.right; with_reducible assumption)); rintro r wA ⟨pv, cv, rfl, hA1, bA⟩; have mA := HF.out wA bA; have HA1 : Hid _ := hA1; clear hA1)
      | go_wp2_with (go_at_call 129; refine (cO.out _ _ ?_ (by first | exact .inl rfl | exact .inr rfl)).mono ?_; (· first | (with_reducible assumption) | (apply And.right; with_reducible assumption)); rintro r wA ⟨pv, cv, rfl, hA1, bA⟩; have mA := HF.out wA bA; have HA1 : Hid _ := hA1; clear hA1)
    try go_wp2_with fail
    refine hK.out _ _ ?_ (fun hHeld2 => ?_)
    · (try dsimp only); exact ⟨by first | (with_reducible assumption) | exact HMD.out, by first | (with_reducible assumption)⟩
    clear hK K hHeld; have hHeld := hHeld2; clear hHeld2
    try simp only [Act.put, List.setIfInBounds_toArray, List.set_cons_zero, List.set_cons_succ]
    refine one_L dOp 28 (by kernel_rfl) (by kernel_rfl) (fun K hK => ?_)
    simp only [nthO]
    go_simp
    first
      | (go_at_call 9; refine (cS.out _ _ _ bA HA1.out).mono ?_; rintro r wB ⟨rfl, bB⟩; have mB := HF.out wB bB)
      | go_wp2_with (go_at_call 9; refine (cS.out _ _ _ bA HA1.out).mono ?_; rintro r wB ⟨rfl, bB⟩; have mB := HF.out wB bB)
    try go_wp2_with fail
    refine hK.out _ _ ?_ (fun hHeld2 => ?_)
    · (try dsimp only); exact ⟨by first | (with_reducible assumption) | exact HMD.out, by first | (with_reducible assumption)⟩
    clear hK K hHeld; have hHeld := hHeld2; clear hHeld2
    try simp only [Act.put, List.setIfInBounds_toArray, List.set_cons_zero, List.set_cons_succ]
    refine take_L dOp 29 ?_ (by kernel_rfl) (by kernel_rfl) (by kernel_rfl) (by kernel_rfl) (fun _ _ _ _ _ h => h) (by rfl) hHeld (fun w hSw => ?_) ?_
    rotate_left
    · (try dsimp only at hSw); simp only [nthO]; go_simp; first | done | with_reducible rfl
    simp only [nthO, Act.put, List.setIfInBounds_toArray, List.set_cons_zero, List.set_cons_succ]
    refine take_L dOp 30 ?_ (by kernel_rfl) (by kernel_rfl) (by kernel_rfl) (by kernel_rfl) (fun _ _ _ _ _ h => h) (by rfl) hHeld (fun w hSw => ?_) ?_
    rotate_left
    · (try dsimp only at hSw); simp only [nthO]; go_simp; first | done | with_reducible rfl
    simp only [nthO, Act.put, List.setIfInBounds_toArray, List.set_cons_zero, List.set_cons_succ]
    refine wpAnyH_done (by kernel_rfl) ?_ _
    have hcl := HI.out.2.1
    gi_wp2
    refine ⟨trivial, (CallsIn.inRound l (callsIn_wide.2 (cM.out _ bB))).mono ?_⟩
    rintro r wC ⟨p', l', c', rfl, hp', bC⟩
    obtain ⟨f0, f1, f2, -, f4, -, -, -, -, -, -⟩ := HF.out wC bC
    have fz : wC.frozen? ⟨K0, 0, none⟩ = false := frozen_of_heap (heap_below bC hcl) 0
    have HB := Hid.mk7 bC
    clear cM cS cO HF HMD bd bA bB mA mB HA1 hcl
    by_cases hl0 : l' = 0
    · subst hl0
      clear hp' HA
      have h0 : ¬ ((0 : Int) < ((0 : Nat) : Int)) := by decide
      clear bC
      gi_wp2
      gi_loopw [13, 92] (fun _ i wr => i = .int .i64 0 ∧ Hid (wr = wC)) (fun _ _ _ => 0)
      case atStart => exact ⟨rfl, rfl⟩
      case round =>
        obtain ⟨rfl, hwr⟩ := hrel
        obtain rfl := hwr.out
        clear hwr
        gi_wp2
        exact each_fin0 HI.out.1 HI.out.2.1 HI.out.2.2.1 HI.out.2.2.2.1 HB.out
    · obtain ⟨rfl, rfl, rfl⟩ : ps = p' ∧ m = l' ∧ cs = c' := by
        rcases hp' with h | h
        · exact ⟨h.1.symm, h.2.1.symm, h.2.2.symm⟩
        · exact absurd h.2.1 hl0
      obtain ⟨ga, rfl, hg1, hg2, cur, hg3, hg4⟩ := HA.out wC bC (by omega)
      have HG : Hid (xlo ≤ ga ∧ ga < xhi ∧ wC.heap[ga]? = some (.cells cur 45 (0, 0)) ∧ m * 4 ≤ cur.size) := ⟨hg1, hg2, hg3, hg4⟩
      have HC := Hid.mk7 (And.intro f2 fz)
      clear hp' HA bC hg1 hg2 hg3 hg4
      gi_wp2
      gi_loopw [13, 92] (fun _ i wr => ∃ j : Nat, j ≤ m ∧ i = .int .i64 j ∧ Hid (Out ga (ga + 1) wC wr ∧ KeepsOthers wC wr)) (fun _ i _ => m - (RowKit.intOf i).toNat)
      case atStart => exact ⟨0, Nat.zero_le _, rfl, Out.refl _ _ _, KeepsOthers.refl _⟩
      case round =>
        clear f0 f1 f2 f4 fz
        obtain ⟨j, hj, rfl, HO⟩ := hrel
        by_cases hlt : j < m
        · have hltI : (j : Int) < (m : Int) := by omega
          obtain ⟨cur', hb, hs⟩ := HO.out.1.shape ga cur _ _ HG.out.2.2.1 (by omega)
          have hsz : m * 4 ≤ cur'.size := by rw [hs]; exact HG.out.2.2.2
          obtain ⟨u0', e0⟩ := cell_at hb (j * 4) (by omega)
          obtain ⟨u1', e1⟩ := cell_at hb (j * 4 + 1) (by omega)
          obtain ⟨u2', e2⟩ := cell_at hb (j * 4 + 2) (by omega)
          obtain ⟨u3', e3⟩ := cell_at hb (j * 4 + 3) (by omega)
          have z0 := frozen_of_row wr ga (j * 4) cur' _ hb
          have z1 := frozen_of_row wr ga (j * 4 + 1) cur' _ hb
          have z2 := frozen_of_row wr ga (j * 4 + 2) cur' _ hb
          have z3 := frozen_of_row wr ga (j * 4 + 3) cur' _ hb
          clear hb hs hsz
          gi_wp2
          go_roundw
          case rel => exact ⟨j + 1, by omega, by go_num, out_set4 HO.out.1 (Nat.le_refl _) (Nat.lt_succ_self _) _ _ _ _ _ _ _ _, (((HO.out.2.trans (KeepsOthers.setCell _ _ _)).trans (KeepsOthers.setCell _ _ _)).trans (KeepsOthers.setCell _ _ _)).trans (KeepsOthers.setCell _ _ _)⟩
          case measure => simp [RowKit.intOf]; omega
        · have hltI : ¬ (j : Int) < (m : Int) := by omega
          have hkg : K0 < ga := by have := HI.out; have := HG.out; omega
          have hbk := HO.out.1.block K0 (lt_of_cell HC.out.1) (Or.inl hkg)
          have f2 : wr.cell? ⟨K0, 0, none⟩ = some (.int .i64 (k : Nat)) := (World.cell?_of_block (a := ⟨K0, 0, none⟩) hbk).trans HC.out.1
          have fz : wr.frozen? ⟨K0, 0, none⟩ = false := frozen_of_heap ((hbk).trans (heap_below HB.out HI.out.2.1)) 0
          gi_wp2
          exact each_fin (x := (_, xlo, xhi)) HI.out.1 HI.out.2.1 HI.out.2.2.1 HI.out.2.2.2.1 HB.out HO.out.1 HO.out.2 HG.out.1 HG.out.2.1 HI.out.2.2.2.2.2.2 (by have := HI.out; show K0 < xlo; omega) ⟨cur, HG.out.2.2.1⟩
  · have cO : Hid (∀ (W' : World) (s' : Value), Below W.heap.size W W' → (s' = .slice ps e.A.length cs ∨ s' = .slice psa e.A.length csa) → Calls Tryz.prog 131 #[.agg #[.int .i64 e.c]] W' fun r w' => ∃ pv cv, r = .returned (opV e (.slice pv e.A.length cv)) ∧ RN w' (.slice pv e.A.length cv) e.A ∧ Below W.heap.size W w') := fun W' s' hW hs => (opQ_4 hge hq W').mono fun r w' ⟨v', h1, h2, h3⟩ => by
      obtain ⟨q, c', e1, _⟩ := (own_RN h2).row.val
      subst e1
      exact ⟨q, c', h1, own_RN h2, hW.trans (h3.mono hW.size)⟩
    rw [pieceQ_4 hq] at HF cM HMD ⊢
    obtain ⟨m, hm⟩ : ∃ m, e.A.length = m := ⟨_, rfl⟩
    rw [hm] at hcs hae HMD
    simp only [hm] at cO HF cM cS HA ⊢
    have HRR : Hid (e.A.length = m) := hm
    clear hs' hm HR hge hq hin hrn hrna hcell hop hw he hN hB hk hK0 hK1 hlo hhi hB0 hco hkn cK
    gi_wp2
    refine region_round_held (S := (fun w' => (w'.cell? ⟨O, 0, none⟩ = some (.slice (some ⟨b, off, none⟩) n co) ∧ w'.cell? ⟨Ab, 0, none⟩ = some (.slice (some ⟨g, 0, none⟩) n ca) ∧ w'.cell? ⟨K0, 0, none⟩ = some (.int .i64 (k : Nat)) ∧ w'.cell? ⟨g, k, none⟩ = some (.iface 79 (.agg #[.int .i64 e.c])) ∧ w'.cell? ⟨b, off + k * 7, none⟩ = some (.int .i64 e.k) ∧ w'.cell? ⟨b, off + k * 7 + 1, none⟩ = some (.string e.t) ∧ w'.cell? ⟨b, off + k * 7 + 2, none⟩ = some (.int .i64 e.v.1) ∧ w'.cell? ⟨b, off + k * 7 + 3, none⟩ = some (.int .i64 e.v.2.1) ∧ w'.cell? ⟨b, off + k * 7 + 4, none⟩ = some (.string e.v.2.2) ∧ w'.cell? ⟨b, off + k * 7 + 5, none⟩ = some (.int .i64 e.c) ∧ w'.cell? ⟨b, off + k * 7 + 6, none⟩ = some (.slice p m c)) ∧ Below W.heap.size W w')) (by kernel_rfl) (by kernel_rfl) (fun ⟨_, _, h⟩ => h) ?_ (fun hHeld => ?_)
    · (try dsimp only); exact ⟨by first | (with_reducible assumption) | exact HMD.out, by first | (with_reducible assumption)⟩
    refine take_L dOp 0 ?_ (by kernel_rfl) (by kernel_rfl) (by kernel_rfl) (by kernel_rfl) (fun _ _ _ _ _ h => h) (by rfl) hHeld (fun w hSw => ?_) ?_
    rotate_left
    · (try dsimp only at hSw); simp only [nthO]; go_simp; first | done | with_reducible rfl
    simp only [nthO, Act.put, List.setIfInBounds_toArray, List.set_cons_zero, List.set_cons_succ]
    refine take_L dOp 1 ?_ (by kernel_rfl) (by kernel_rfl) (by kernel_rfl) (by kernel_rfl) (fun _ _ _ _ _ h => h) (by rfl) hHeld (fun w hSw => ?_) ?_
    rotate_left
    · (try dsimp only at hSw); simp only [nthO]; go_simp; first | done | with_reducible rfl
    simp only [nthO, Act.put, List.setIfInBounds_toArray, List.set_cons_zero, List.set_cons_succ]
    refine take_L dOp 2 ?_ (by kernel_rfl) (by kernel_rfl) (by kernel_rfl) (by kernel_rfl) (fun _ _ _ _ _ h => h) (by rfl) hHeld (fun w hSw => ?_) ?_
    rotate_left
    · (try dsimp only at hSw); simp only [nthO]; go_simp; first | done | with_reducible rfl
    simp only [nthO, Act.put, List.setIfInBounds_toArray, List.set_cons_zero, List.set_cons_succ]
    refine take_L dOp 3 ?_ (by kernel_rfl) (by kernel_rfl) (by kernel_rfl) (by kernel_rfl) (fun _ _ _ _ _ h => h) (by rfl) hHeld (fun w hSw => ?_) ?_
    rotate_left
    · (try dsimp only at hSw); simp only [nthO]; go_simp; first | done | with_reducible rfl
    simp only [nthO, Act.put, List.setIfInBounds_toArray, List.set_cons_zero, List.set_cons_succ]
    refine take_L dOp 4 ?_ (by kernel_rfl) (by kernel_rfl) (by kernel_rfl) (by kernel_rfl) (fun _ _ _ _ _ h => h) (by rfl) hHeld (fun w hSw => ?_) ?_
    rotate_left
    · (try dsimp only at hSw); simp only [nthO]; go_simp; first | done | with_reducible rfl
    simp only [nthO, Act.put, List.setIfInBounds_toArray, List.set_cons_zero, List.set_cons_succ]
    refine take_L dOp 5 ?_ (by kernel_rfl) (by kernel_rfl) (by kernel_rfl) (by kernel_rfl) (fun _ _ _ _ _ h => h) (by rfl) hHeld (fun w hSw => ?_) ?_
    rotate_left
    · (try dsimp only at hSw); simp only [nthO]; go_simp; first | done | with_reducible rfl
    simp only [nthO, Act.put, List.setIfInBounds_toArray, List.set_cons_zero, List.set_cons_succ]
    refine take_L dOp 6 ?_ (by kernel_rfl) (by kernel_rfl) (by kernel_rfl) (by kernel_rfl) (fun _ _ _ _ _ h => h) (by rfl) hHeld (fun w hSw => ?_) ?_
    rotate_left
    · (try dsimp only at hSw); simp only [nthO]; go_simp; first | done | with_reducible rfl
    simp only [nthO, Act.put, List.setIfInBounds_toArray, List.set_cons_zero, List.set_cons_succ]
    refine take_L dOp 7 ?_ (by kernel_rfl) (by kernel_rfl) (by kernel_rfl) (by kernel_rfl) (fun _ _ _ _ _ h => h) (by rfl) hHeld (fun w hSw => ?_) ?_
    rotate_left
    · (try dsimp only at hSw); simp only [nthO]; go_simp; first | done | with_reducible rfl
    simp only [nthO, Act.put, List.setIfInBounds_toArray, List.set_cons_zero, List.set_cons_succ]
    refine take_L dOp 8 ?_ (by kernel_rfl) (by kernel_rfl) (by kernel_rfl) (by kernel_rfl) (fun _ _ _ _ _ h => h) (by rfl) hHeld (fun w hSw => ?_) ?_
    rotate_left
    · (try dsimp only at hSw); simp only [nthO]; go_simp; first | done | with_reducible rfl
    simp only [nthO, Act.put, List.setIfInBounds_toArray, List.set_cons_zero, List.set_cons_succ]
    refine take_L dOp 9 ?_ (by kernel_rfl) (by kernel_rfl) (by kernel_rfl) (by kernel_rfl) (fun _ _ _ _ _ h => h) (by rfl) hHeld (fun w hSw => ?_) ?_
    rotate_left
    · (try dsimp only at hSw); simp only [nthO]; go_simp; first | done | with_reducible rfl
    simp only [nthO, Act.put, List.setIfInBounds_toArray, List.set_cons_zero, List.set_cons_succ]
    refine take_L dOp 11 ?_ (by kernel_rfl) (by kernel_rfl) (by kernel_rfl) (by kernel_rfl) (fun _ _ _ _ _ h => h) (by rfl) hHeld (fun w hSw => ?_) ?_
    rotate_left
    · (try dsimp only at hSw); simp only [nthO]; go_simp; first | done | with_reducible rfl
    simp only [nthO, Act.put, List.setIfInBounds_toArray, List.set_cons_zero, List.set_cons_succ]
    refine take_L dOp 12 ?_ (by kernel_rfl) (by kernel_rfl) (by kernel_rfl) (by kernel_rfl) (fun _ _ _ _ _ h => h) (by rfl) hHeld (fun w hSw => ?_) ?_
    rotate_left
    · (try dsimp only at hSw); simp only [nthO]; go_simp; first | done | with_reducible rfl
    simp only [nthO, Act.put, List.setIfInBounds_toArray, List.set_cons_zero, List.set_cons_succ]
    refine take_L dOp 13 ?_ (by kernel_rfl) (by kernel_rfl) (by kernel_rfl) (by kernel_rfl) (fun _ _ _ _ _ h => h) (by rfl) hHeld (fun w hSw => ?_) ?_
    rotate_left
    · (try dsimp only at hSw); simp only [nthO]; go_simp; first | done | with_reducible rfl
    simp only [nthO, Act.put, List.setIfInBounds_toArray, List.set_cons_zero, List.set_cons_succ]
    refine take_L dOp 14 ?_ (by kernel_rfl) (by kernel_rfl) (by kernel_rfl) (by kernel_rfl) (fun _ _ _ _ _ h => h) (by rfl) hHeld (fun w hSw => ?_) ?_
    rotate_left
    · (try dsimp only at hSw); simp only [nthO]; go_simp; first | done | with_reducible rfl
    simp only [nthO, Act.put, List.setIfInBounds_toArray, List.set_cons_zero, List.set_cons_succ]
    refine one_L dOp 10 (by kernel_rfl) (by kernel_rfl) (fun K hK => ?_)
    simp only [nthO]
    go_simp
    first
      | (go_at_call 131; refine (cO.out _ _ ?_ (by first | exact .inl rfl | exact .inr rfl)).mono ?_; (· first | (with_reducible assumption) | (apply And.right; with_reducible assumption)); rintro r wA ⟨pv, cv, rfl, hA1, bA⟩; have mA := HF.out wA bA; have HA1 : Hid _ := hA1; clear hA1)
      | go_wp2_with (go_at_call 131; refine (cO.out _ _ ?_ (by first | exact .inl rfl | exact .inr rfl)).mono ?_; (· first | (with_reducible assumption) | (apply And.right; with_reducible assumption)); rintro r wA ⟨pv, cv, rfl, hA1, bA⟩; have mA := HF.out wA bA; have HA1 : Hid _ := hA1; clear hA1)
    try go_wp2_with fail
    refine hK.out _ _ ?_ (fun hHeld2 => ?_)
    · (try dsimp only); exact ⟨by first | (with_reducible assumption) | exact HMD.out, by first | (with_reducible assumption)⟩
    clear hK K hHeld; have hHeld := hHeld2; clear hHeld2
    try simp only [Act.put, List.setIfInBounds_toArray, List.set_cons_zero, List.set_cons_succ]
    refine one_L dOp 15 (by kernel_rfl) (by kernel_rfl) (fun K hK => ?_)
    simp only [nthO]
    go_simp
    first
      | (go_at_call 9; refine (cS.out _ _ _ bA HA1.out).mono ?_; rintro r wB ⟨rfl, bB⟩; have mB := HF.out wB bB)
      | go_wp2_with (go_at_call 9; refine (cS.out _ _ _ bA HA1.out).mono ?_; rintro r wB ⟨rfl, bB⟩; have mB := HF.out wB bB)
    try go_wp2_with fail
    refine hK.out _ _ ?_ (fun hHeld2 => ?_)
    · (try dsimp only); exact ⟨by first | (with_reducible assumption) | exact HMD.out, by first | (with_reducible assumption)⟩
    clear hK K hHeld; have hHeld := hHeld2; clear hHeld2
    try simp only [Act.put, List.setIfInBounds_toArray, List.set_cons_zero, List.set_cons_succ]
    refine take_L dOp 16 ?_ (by kernel_rfl) (by kernel_rfl) (by kernel_rfl) (by kernel_rfl) (fun _ _ _ _ _ h => h) (by rfl) hHeld (fun w hSw => ?_) ?_
    rotate_left
    · (try dsimp only at hSw); simp only [nthO]; go_simp; first | done | with_reducible rfl
    simp only [nthO, Act.put, List.setIfInBounds_toArray, List.set_cons_zero, List.set_cons_succ]
    refine take_L dOp 17 ?_ (by kernel_rfl) (by kernel_rfl) (by kernel_rfl) (by kernel_rfl) (fun _ _ _ _ _ h => h) (by rfl) hHeld (fun w hSw => ?_) ?_
    rotate_left
    · (try dsimp only at hSw); simp only [nthO]; go_simp; first | done | with_reducible rfl
    simp only [nthO, Act.put, List.setIfInBounds_toArray, List.set_cons_zero, List.set_cons_succ]
    refine take_L dOp 18 ?_ (by kernel_rfl) (by kernel_rfl) (by kernel_rfl) (by kernel_rfl) (fun _ _ _ _ _ h => h) (by rfl) hHeld (fun w hSw => ?_) ?_
    rotate_left
    · (try dsimp only at hSw); simp only [nthO]; go_simp; first | done | with_reducible rfl
    simp only [nthO, Act.put, List.setIfInBounds_toArray, List.set_cons_zero, List.set_cons_succ]
    refine take_L dOp 19 ?_ (by kernel_rfl) (by kernel_rfl) (by kernel_rfl) (by kernel_rfl) (fun _ _ _ _ _ h => h) (by rfl) hHeld (fun w hSw => ?_) ?_
    rotate_left
    · (try dsimp only at hSw); simp only [nthO]; go_simp; first | done | with_reducible rfl
    simp only [nthO, Act.put, List.setIfInBounds_toArray, List.set_cons_zero, List.set_cons_succ]
    refine take_L dOp 20 ?_ (by kernel_rfl) (by kernel_rfl) (by kernel_rfl) (by kernel_rfl) (fun _ _ _ _ _ h => h) (by rfl) hHeld (fun w hSw => ?_) ?_
    rotate_left
    · (try dsimp only at hSw); simp only [nthO]; go_simp; first | done | with_reducible rfl
    simp only [nthO, Act.put, List.setIfInBounds_toArray, List.set_cons_zero, List.set_cons_succ]
    refine take_L dOp 21 ?_ (by kernel_rfl) (by kernel_rfl) (by kernel_rfl) (by kernel_rfl) (fun _ _ _ _ _ h => h) (by rfl) hHeld (fun w hSw => ?_) ?_
    rotate_left
    · (try dsimp only at hSw); simp only [nthO]; go_simp; first | done | with_reducible rfl
    simp only [nthO, Act.put, List.setIfInBounds_toArray, List.set_cons_zero, List.set_cons_succ]
    refine take_L dOp 22 ?_ (by kernel_rfl) (by kernel_rfl) (by kernel_rfl) (by kernel_rfl) (fun _ _ _ _ _ h => h) (by rfl) hHeld (fun w hSw => ?_) ?_
    rotate_left
    · (try dsimp only at hSw); simp only [nthO]; go_simp; first | done | with_reducible rfl
    simp only [nthO, Act.put, List.setIfInBounds_toArray, List.set_cons_zero, List.set_cons_succ]
    refine take_L dOp 24 ?_ (by kernel_rfl) (by kernel_rfl) (by kernel_rfl) (by kernel_rfl) (fun _ _ _ _ _ h => h) (by rfl) hHeld (fun w hSw => ?_) ?_
    rotate_left
    · (try dsimp only at hSw); simp only [nthO]; go_simp; first | done | with_reducible rfl
    simp only [nthO, Act.put, List.setIfInBounds_toArray, List.set_cons_zero, List.set_cons_succ]
    refine take_L dOp 25 ?_ (by kernel_rfl) (by kernel_rfl) (by kernel_rfl) (by kernel_rfl) (fun _ _ _ _ _ h => h) (by rfl) hHeld (fun w hSw => ?_) ?_
    rotate_left
    · (try dsimp only at hSw); simp only [nthO]; go_simp; first | done | with_reducible rfl
    simp only [nthO, Act.put, List.setIfInBounds_toArray, List.set_cons_zero, List.set_cons_succ]
    refine take_L dOp 26 ?_ (by kernel_rfl) (by kernel_rfl) (by kernel_rfl) (by kernel_rfl) (fun _ _ _ _ _ h => h) (by rfl) hHeld (fun w hSw => ?_) ?_
    rotate_left
    · (try dsimp only at hSw); simp only [nthO]; go_simp; first | done | with_reducible rfl
    simp only [nthO, Act.put, List.setIfInBounds_toArray, List.set_cons_zero, List.set_cons_succ]
    refine take_L dOp 27 ?_ (by kernel_rfl) (by kernel_rfl) (by kernel_rfl) (by kernel_rfl) (fun _ _ _ _ _ h => h) (by rfl) hHeld (fun w hSw => ?_) ?_
    rotate_left
    · (try dsimp only at hSw); simp only [nthO]; go_simp; first | done | with_reducible rfl
    simp only [nthO, Act.put, List.setIfInBounds_toArray, List.set_cons_zero, List.set_cons_succ]
    refine one_L dOp 23 (by kernel_rfl) (by kernel_rfl) (fun K hK => ?_)
    simp only [nthO]
    go_simp
    first
      | (go_at_call 131; refine (cO.out _ _ ?_ (by first | exact .inl rfl | exact .inr rfl)).mono ?_; (· first | (with_reducible assumption) | (apply And.right; with_reducible assumption)); rintro r wA ⟨pv, cv, rfl, hA1, bA⟩; have mA := HF.out wA bA; have HA1 : Hid _ := hA1; clear hA1)
      | go_wp2_with (go_at_call 131; refine (cO.out _ _ ?_ (by first | exact .inl rfl | exact .inr rfl)).mono ?_; (· first | (with_reducible assumption) | (apply And.right; with_reducible assumption)); rintro r wA ⟨pv, cv, rfl, hA1, bA⟩; have mA := HF.out wA bA; have HA1 : Hid _ := hA1; clear hA1)
    try go_wp2_with fail
    refine hK.out _ _ ?_ (fun hHeld2 => ?_)
    · (try dsimp only); exact ⟨by first | (with_reducible assumption) | exact HMD.out, by first | (with_reducible assumption)⟩
    clear hK K hHeld; have hHeld := hHeld2; clear hHeld2
    try simp only [Act.put, List.setIfInBounds_toArray, List.set_cons_zero, List.set_cons_succ]
    refine one_L dOp 28 (by kernel_rfl) (by kernel_rfl) (fun K hK => ?_)
    simp only [nthO]
    go_simp
    first
      | (go_at_call 9; refine (cS.out _ _ _ bA HA1.out).mono ?_; rintro r wB ⟨rfl, bB⟩; have mB := HF.out wB bB)
      | go_wp2_with (go_at_call 9; refine (cS.out _ _ _ bA HA1.out).mono ?_; rintro r wB ⟨rfl, bB⟩; have mB := HF.out wB bB)
    try go_wp2_with fail
    refine hK.out _ _ ?_ (fun hHeld2 => ?_)
    · (try dsimp only); exact ⟨by first | (with_reducible assumption) | exact HMD.out, by first | (with_reducible assumption)⟩
    clear hK K hHeld; have hHeld := hHeld2; clear hHeld2
    try simp only [Act.put, List.setIfInBounds_toArray, List.set_cons_zero, List.set_cons_succ]
    refine take_L dOp 29 ?_ (by kernel_rfl) (by kernel_rfl) (by kernel_rfl) (by kernel_rfl) (fun _ _ _ _ _ h => h) (by rfl) hHeld (fun w hSw => ?_) ?_
    rotate_left
    · (try dsimp only at hSw); simp only [nthO]; go_simp; first | done | with_reducible rfl
    simp only [nthO, Act.put, List.setIfInBounds_toArray, List.set_cons_zero, List.set_cons_succ]
    refine take_L dOp 30 ?_ (by kernel_rfl) (by kernel_rfl) (by kernel_rfl) (by kernel_rfl) (fun _ _ _ _ _ h => h) (by rfl) hHeld (fun w hSw => ?_) ?_
    rotate_left
    · (try dsimp only at hSw); simp only [nthO]; go_simp; first | done | with_reducible rfl
    simp only [nthO, Act.put, List.setIfInBounds_toArray, List.set_cons_zero, List.set_cons_succ]
    refine wpAnyH_done (by kernel_rfl) ?_ _
    have hcl := HI.out.2.1
    gi_wp2
    refine ⟨trivial, (CallsIn.inRound l (callsIn_wide.2 (cM.out _ bB))).mono ?_⟩
    rintro r wC ⟨p', l', c', rfl, hp', bC⟩
    obtain ⟨f0, f1, f2, -, f4, -, -, -, -, -, -⟩ := HF.out wC bC
    have fz : wC.frozen? ⟨K0, 0, none⟩ = false := frozen_of_heap (heap_below bC hcl) 0
    have HB := Hid.mk7 bC
    clear cM cS cO HF HMD bd bA bB mA mB HA1 hcl
    by_cases hl0 : l' = 0
    · subst hl0
      clear hp' HA
      have h0 : ¬ ((0 : Int) < ((0 : Nat) : Int)) := by decide
      clear bC
      gi_wp2
      gi_loopw [13, 92] (fun _ i wr => i = .int .i64 0 ∧ Hid (wr = wC)) (fun _ _ _ => 0)
      case atStart => exact ⟨rfl, rfl⟩
      case round =>
        obtain ⟨rfl, hwr⟩ := hrel
        obtain rfl := hwr.out
        clear hwr
        gi_wp2
        exact each_fin0 HI.out.1 HI.out.2.1 HI.out.2.2.1 HI.out.2.2.2.1 HB.out
    · obtain ⟨rfl, rfl, rfl⟩ : ps = p' ∧ m = l' ∧ cs = c' := by
        rcases hp' with h | h
        · exact ⟨h.1.symm, h.2.1.symm, h.2.2.symm⟩
        · exact absurd h.2.1 hl0
      obtain ⟨ga, rfl, hg1, hg2, cur, hg3, hg4⟩ := HA.out wC bC (by omega)
      have HG : Hid (xlo ≤ ga ∧ ga < xhi ∧ wC.heap[ga]? = some (.cells cur 45 (0, 0)) ∧ m * 4 ≤ cur.size) := ⟨hg1, hg2, hg3, hg4⟩
      have HC := Hid.mk7 (And.intro f2 fz)
      clear hp' HA bC hg1 hg2 hg3 hg4
      gi_wp2
      gi_loopw [13, 92] (fun _ i wr => ∃ j : Nat, j ≤ m ∧ i = .int .i64 j ∧ Hid (Out ga (ga + 1) wC wr ∧ KeepsOthers wC wr)) (fun _ i _ => m - (RowKit.intOf i).toNat)
      case atStart => exact ⟨0, Nat.zero_le _, rfl, Out.refl _ _ _, KeepsOthers.refl _⟩
      case round =>
        clear f0 f1 f2 f4 fz
        obtain ⟨j, hj, rfl, HO⟩ := hrel
        by_cases hlt : j < m
        · have hltI : (j : Int) < (m : Int) := by omega
          obtain ⟨cur', hb, hs⟩ := HO.out.1.shape ga cur _ _ HG.out.2.2.1 (by omega)
          have hsz : m * 4 ≤ cur'.size := by rw [hs]; exact HG.out.2.2.2
          obtain ⟨u0', e0⟩ := cell_at hb (j * 4) (by omega)
          obtain ⟨u1', e1⟩ := cell_at hb (j * 4 + 1) (by omega)
          obtain ⟨u2', e2⟩ := cell_at hb (j * 4 + 2) (by omega)
          obtain ⟨u3', e3⟩ := cell_at hb (j * 4 + 3) (by omega)
          have z0 := frozen_of_row wr ga (j * 4) cur' _ hb
          have z1 := frozen_of_row wr ga (j * 4 + 1) cur' _ hb
          have z2 := frozen_of_row wr ga (j * 4 + 2) cur' _ hb
          have z3 := frozen_of_row wr ga (j * 4 + 3) cur' _ hb
          clear hb hs hsz
          gi_wp2
          go_roundw
          case rel => exact ⟨j + 1, by omega, by go_num, out_set4 HO.out.1 (Nat.le_refl _) (Nat.lt_succ_self _) _ _ _ _ _ _ _ _, (((HO.out.2.trans (KeepsOthers.setCell _ _ _)).trans (KeepsOthers.setCell _ _ _)).trans (KeepsOthers.setCell _ _ _)).trans (KeepsOthers.setCell _ _ _)⟩
          case measure => simp [RowKit.intOf]; omega
        · have hltI : ¬ (j : Int) < (m : Int) := by omega
          have hkg : K0 < ga := by have := HI.out; have := HG.out; omega
          have hbk := HO.out.1.block K0 (lt_of_cell HC.out.1) (Or.inl hkg)
          have f2 : wr.cell? ⟨K0, 0, none⟩ = some (.int .i64 (k : Nat)) := (World.cell?_of_block (a := ⟨K0, 0, none⟩) hbk).trans HC.out.1
          have fz : wr.frozen? ⟨K0, 0, none⟩ = false := frozen_of_heap ((hbk).trans (heap_below HB.out HI.out.2.1)) 0
          gi_wp2
          exact each_fin (x := (_, xlo, xhi)) HI.out.1 HI.out.2.1 HI.out.2.2.1 HI.out.2.2.2.1 HB.out HO.out.1 HO.out.2 HG.out.1 HG.out.2.1 HI.out.2.2.2.2.2.2 (by have := HI.out; show K0 < xlo; omega) ⟨cur, HG.out.2.2.1⟩
end Go.Proofs.YtpmblhofeabppaaGreatDoor
