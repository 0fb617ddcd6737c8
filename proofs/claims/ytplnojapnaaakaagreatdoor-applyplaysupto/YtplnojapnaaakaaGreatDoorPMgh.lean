/- ops.Bearers: the pieces that bear attributes, with their numbers. What Kept has laid for itself, and how it turns. A region that draws its order, in a round of a range over a function: the plain kit's walk of it (held at S) serves: its laws, and those by which it is walked by hand. A region that draws its order, in a round of a range over a function, whose loads come ahead of its stores: the loads are taken first, under a condition that hangs on what has come up. apply.Kept. -/
import Derived.Test.YtplnojapnaaakaaGreatDoorPMga
import Derived.Test.YtplnojapnaaakaaGreatDoorPMgg
import Derived.Great.BuildSlice
import Derived.Deep.RegionHeld3
import Derived.OrdersIn
import Derived.OwnWalkIn
import Derived.RangeFuncCalls
import Derived.Deep.RegionLaw
import Derived.Stop.RegionWithIn
import Derived.BigRegion

/- ops.Bearers: the pieces that bear attributes, with their numbers. -/
namespace Go.Proofs.YtplnojapnaaakaaGreatDoor
open Go Go.RowKit Go.Lib
set_option linter.unusedVariables false
/-- All blocks of one type of elements are as they were. -/
def KeepT (e : TypeId) (w w' : World) : Prop := ∀ (k : Nat) (cur : Array Value), w.heap[k]? = some (.cells cur e (0, 0)) → w'.heap[k]? = w.heap[k]?
theorem keepT_grown {e e' : TypeId} {w w' : World} {B sz n : Nat} {v : Value} {xs : List Value} (h : w.ownsRow B e' sz v n xs) (g : w.grownBy w' v.ownBlock) (hne : e' ≠ e) : KeepT e w w' := fun k cur hk => by
  refine g.block k (Array.getElem?_eq_some_iff.1 hk).1 fun q => ?_
  rcases h.2 with ⟨rfl, _⟩ | ⟨b, cap, cur', rfl, _, h3, _⟩
  · cases q
  · simp only [Value.ownBlock, Option.some.injEq] at q
    subst q
    rw [h3] at hk
    simp only [Option.some.injEq, Obj.cells.injEq] at hk
    exact absurd hk.2.1 hne
theorem keepT_own {e : TypeId} {w w' : World} {B sz n : Nat} {v : Value} {xs : List Value} (h : w.ownsRow B e sz v n xs) (hk : KeepT e w w') : w'.ownsRow B e sz v n xs := owns_same h fun k hb => by
  obtain ⟨_, cur, hc⟩ := owns_block h k hb
  exact hk k cur hc
abbrev OwnZ (w : World) (B : Nat) (v : Value) (P : List Value) : Prop := w.ownsRow B 3 1 v P.length P
theorem infoZi : ∃ i z, Tryz.prog.info? 3 = some i ∧ i.zero = some z ∧ i.size = 1 ∧ i.bytes = 8 ∧ z.cells.size = 1 := by
  obtain ⟨i, hi, h⟩ := Option.map_eq_some_iff.1 (show (Tryz.prog.info? 3).map (fun i => (i.zero, i.size, i.bytes)) = some (some (.int .i64 0), 1, 8) by kernel_rfl)
  simp only [Prod.mk.injEq] at h
  exact ⟨i, _, hi, h.1, h.2.1, h.2.2, rfl⟩
end Go.Proofs.YtplnojapnaaakaaGreatDoor

/- What Kept has laid for itself, and how it turns. -/
namespace Go.Proofs.YtplnojapnaaakaaGreatDoor
open Go Go.RowKit Go.Lib Go.Shelf
set_option linter.unusedVariables false

/-! How many cells stay. -/
def delU (U : List U6) : Nat := U.countP fun u => match u with | .del => true | _ => false
theorem delU_append (U V : List U6) : delU (U ++ V) = delU U + delU V := by unfold delU; rw [List.countP_append]
theorem delU_ins (l : List C5) : delU (l.map U6.ins) = 0 := by
  induction l with
  | nil => rfl
  | cons c r ih => rw [List.map_cons]; simp [delU]
theorem delU_keeps (A : List A2) (n : Nat) : delU (List.replicate n (.keep A)) = 0 := by
  induction n with
  | zero => rfl
  | succ n ih => rw [List.replicate_succ]; simp [delU]
theorem delU_dels (n : Nat) : delU (List.replicate n .del) = n := by
  induction n with
  | zero => rfl
  | succ n ih =>
    rw [List.replicate_succ]
    have : delU (.del :: List.replicate n .del) = delU (List.replicate n .del) + 1 := by simp [delU]
    rw [this, ih]
theorem kepU_count : ∀ (U : List U6) (f t : Int), (kepU U f t).length + delU U = baseU U
  | [], _, _ => rfl
  | .ins c :: u, f, t => by
    have := kepU_count u f (t + 1)
    have e : delU (.ins c :: u) = delU u := by simp [delU]
    rw [baseU_ins, e]; exact this
  | .keep A :: u, f, t => by
    have := kepU_count u (f + 1) (t + 1)
    have e : delU (.keep A :: u) = delU u := by simp [delU]
    rw [baseU_keep, e]; show (kepU u (f + 1) (t + 1)).length + 1 + delU u = _; omega
  | .del :: u, f, t => by
    have := kepU_count u (f + 1) t
    have e : delU (.del :: u) = delU u + 1 := by simp [delU]
    rw [baseU_del, e]; show (kepU u (f + 1) t).length + (delU u + 1) = _; omega
theorem del_base : ∀ U : List U6, delU U ≤ baseU U := fun U => by have := kepU_count U 0 0; omega
theorem del_units {o : Op5} (h : Wel o) : dlO8 o = (delU (unitsO o) : Int) := by
  unfold dlO8
  rcases h.kinds with hk | hk | hk | hk
  · rw [if_neg (by omega), unitsO_1 (.inl hk), delU_ins]; rfl
  · rw [if_neg (by omega), unitsO_1 (.inr hk), delU_ins]; rfl
  · rw [if_neg (by omega), unitsO_3 hk, delU_keeps]; rfl
  · have := len5_units h
    rw [if_pos hk, this, unitsO_4 hk, delU_dels, List.length_replicate]
theorem sumD_units : ∀ {E : List Op5}, (∀ o ∈ E, Wel o) → sumD8 E = (delU (units E) : Int)
  | [], _ => rfl
  | o :: r, h => by
    have e : sumD8 (o :: r) = dlO8 o + sumD8 r := by simp [sumD8]
    have e2 : units (o :: r) = unitsO o ++ units r := rfl
    rw [e, e2, delU_append, Int.natCast_add, del_units (h o (List.mem_cons_self ..)), sumD_units fun x hx => h x (List.mem_cons_of_mem _ hx)]
/-- There is room for all that stay. -/
theorem sty_room {E F : List Op5} {N T K : Nat} (hE : Rst E N T K) (hF : Rst F N T K) (hT : T ≤ 8388608) (hN : N ≤ 4194304) (hd : DocL E) (hb : baseU (units F) ≤ (cellsL E).length) {k : Nat} (h : ∀ j, j < k → Doc10 (out7 E F j).1 (out7 E F j).2) :
    (sty10 E F k).length + delU (units F) ≤ (cellsL E).length := by
  obtain ⟨m, e, hm⟩ := right_inv hE hF hT hN k
  have hc := far_cells hE hF hT hN hd h
  have hk := kepU_count (units (rig7 E F k)) 0 0
  have h1 := congrArg baseU e
  have h2 := congrArg delU e
  rw [baseU_append, baseU_append, baseU_keeps] at h1
  rw [delU_append, delU_append, delU_keeps] at h2
  have h3 := del_base (units (it7 E F k).2)
  unfold far10 at hc
  unfold sty10
  by_cases h0 : (it7 E F k).2 = []
  · rw [h0] at h1 h2
    have e1 : baseU (units ([] : List Op5)) = 0 := rfl
    have e2 : delU (units ([] : List Op5)) = 0 := rfl
    omega
  · have := hm h0
    omega

/-! Its memory. -/
/-- Blocks that are neither numbers nor boxes of lists of numbers stand, and all from a mark on. -/
structure FrK (M : Nat) (A A' : World) : Prop where
  os : A'.os = A.os
  tape : A'.tape = A.tape
  output : A'.output = A.output
  size : A.heap.size ≤ A'.heap.size
  hi : ∀ (k : Nat) (o : Obj), A.heap[k]? = some o → M ≤ k → A'.heap[k]? = some o
  ty : ∀ (k : Nat) (o : Obj), A.heap[k]? = some o → (∀ cs t fz, o = .cells cs t fz → t ≠ 3 ∧ t ≠ 61) → A'.heap[k]? = some o
theorem FrK.of_below {M : Nat} {A A' : World} (b : Below A.heap.size A A') : FrK M A A' :=
  ⟨b.os, b.tape, b.output, b.size, fun k o hk _ => (b.block k (Array.getElem?_eq_some_iff.1 hk).1).trans hk, fun k o hk _ => (b.block k (Array.getElem?_eq_some_iff.1 hk).1).trans hk⟩
theorem FrK.trans {M : Nat} {A B C : World} (h : FrK M A B) (k : FrK M B C) : FrK M A C :=
  ⟨k.os.trans h.os, k.tape.trans h.tape, k.output.trans h.output, Nat.le_trans h.size k.size, fun i o hi hm => k.hi i o (h.hi i o hi hm) hm, fun i o hi ht => k.ty i o (h.ty i o hi ht) ht⟩
theorem FrK.set {M : Nat} {A : World} {g : Nat} {cs : Array Value} {t : TypeId} (hg : A.heap[g]? = some (.cells cs t (0, 0))) (ht : t = 3 ∨ t = 61) (hM : g < M) (i : Nat) (u : Value) : FrK M A (A.setCell ⟨g, i, none⟩ u) := by
  refine ⟨rfl, rfl, rfl, by simp [World.setCell], fun k o hk hm => (Below.heap_setCell _ _ _ _ (by show k ≠ g; omega)).trans hk, fun k o hk hn => (Below.heap_setCell _ _ _ _ (by show k ≠ g; intro e; subst e; rw [hg] at hk; have := hn _ _ _ (Option.some.inj hk).symm; rcases ht with rfl | rfl; exact this.1 rfl; exact this.2 rfl)).trans hk⟩
theorem FrK.from {M : Nat} {A A' : World} (h : FrK M A A') : KeepsFrom M A A' := ⟨h.size, fun k o hm hk _ => h.hi k o hk hm⟩
theorem FrK.ks {M C : Nat} {A A' : World} (h : FrK M A A') : KS8 M C A A' :=
  ⟨h.size, fun k cs t fz hk ht => by
    rcases ht with ⟨_, h2, _⟩ | rfl
    · exact h.hi k _ hk h2
    · exact h.ty k _ hk fun cs' t' fz' e => by simp only [Obj.cells.injEq] at e; rw [← e.2.1]; decide⟩
/-- Where Kept's own blocks lie. -/
structure KeK (w : World) (M X Y R S G H : Nat) : Prop where
  hx : w.heap.size ≤ X ∧ X < M
  hy : w.heap.size ≤ Y ∧ Y < M
  hr : w.heap.size ≤ R ∧ R < M
  hs : w.heap.size ≤ S ∧ S < M
  hg : w.heap.size ≤ G ∧ G < M
  hh : w.heap.size ≤ H ∧ H < M
  xy : X ≠ Y
  rs : R ≠ S
  rg : R ≠ G
  rh : R ≠ H
  sg : S ≠ G
  sh : S ≠ H
  gh : G ≠ H
/-- What they hold. -/
structure KeG (w : World) (X Y R S G H cn f t : Nat) (L : List (Int × Int)) (A : World) : Prop where
  x : A.heap[X]? = some (.cells #[.slice (some ⟨G, 0, none⟩) L.length cn] 61 (0, 0))
  y : A.heap[Y]? = some (.cells #[.slice (some ⟨H, 0, none⟩) L.length cn] 61 (0, 0))
  r : A.heap[R]? = some (.cells #[.int .i64 f] 3 (0, 0))
  s : A.heap[S]? = some (.cells #[.int .i64 t] 3 (0, 0))
  g : ∃ gc : Array Value, A.heap[G]? = some (.cells gc 3 (0, 0)) ∧ gc.size = cn ∧ gc.toList.take L.length = L.map fun x => .int .i64 x.1
  h : ∃ hc : Array Value, A.heap[H]? = some (.cells hc 3 (0, 0)) ∧ hc.size = cn ∧ hc.toList.take L.length = L.map fun x => .int .i64 x.2
  le : L.length ≤ cn
  below : Below w.heap.size w A
theorem KeG.mono {w A A' : World} {X Y R S G H cn f t : Nat} {L : List (Int × Int)} (h : KeG w X Y R S G H cn f t L A) (b : Below A.heap.size A A') : KeG w X Y R S G H cn f t L A' := by
  obtain ⟨gc, g1, g2, g3⟩ := h.g
  obtain ⟨hc, h1, h2, h3⟩ := h.h
  exact ⟨heap_below b h.x, heap_below b h.y, heap_below b h.r, heap_below b h.s, ⟨gc, heap_below b g1, g2, g3⟩, ⟨hc, heap_below b h1, h2, h3⟩, h.le, h.below.trans (b.mono h.below.size)⟩
theorem KeG.tr {w A A' : World} {M C X Y R S G H cn f t : Nat} {L : List (Int × Int)} (h : KeG w X Y R S G H cn f t L A) (k : KeK w M X Y R S G H) (hw : w.heap.size ≤ M) (tr : Tr8 TW M C A A') : KeG w X Y R S G H cn f t L A' := by
  obtain ⟨gc, g1, g2, g3⟩ := h.g
  obtain ⟨hc, h1, h2, h3⟩ := h.h
  exact ⟨tr.kept _ _ h.x (.inl k.hx.2), tr.kept _ _ h.y (.inl k.hy.2), tr.kept _ _ h.r (.inl k.hr.2), tr.kept _ _ h.s (.inl k.hs.2), ⟨gc, tr.kept _ _ g1 (.inl k.hg.2), g2, g3⟩, ⟨hc, tr.kept _ _ h1 (.inl k.hh.2), h2, h3⟩, h.le, tr_below8 h.below (Nat.le_refl _) hw tr.seven⟩
theorem KeG.setR {w A : World} {M X Y R S G H cn f t : Nat} {L : List (Int × Int)} (h : KeG w X Y R S G H cn f t L A) (k : KeK w M X Y R S G H) (f' : Nat) : KeG w X Y R S G H cn f' t L (A.setCell ⟨R, 0, none⟩ (.int .i64 f')) ∧ FrK M A (A.setCell ⟨R, 0, none⟩ (.int .i64 f')) := by
  obtain ⟨gc, g1, g2, g3⟩ := h.g
  obtain ⟨hc, h1, h2, h3⟩ := h.h
  have ne : ∀ {j : Nat} {o : Obj}, A.heap[j]? = some o → j ≠ R → (A.setCell ⟨R, 0, none⟩ (.int .i64 f')).heap[j]? = some o := fun hj hn => (Below.heap_setCell _ _ _ _ hn).trans hj
  have nx : X ≠ R := fun e => by have := h.x; rw [e, h.r] at this; simp at this
  have ny : Y ≠ R := fun e => by have := h.y; rw [e, h.r] at this; simp at this
  exact ⟨⟨ne h.x nx, ne h.y ny, heap_set_at A R 0 _ _ _ _ h.r, ne h.s (Ne.symm k.rs), ⟨gc, ne g1 (Ne.symm k.rg), g2, g3⟩, ⟨hc, ne h1 (Ne.symm k.rh), h2, h3⟩, h.le, h.below.setCell (p := ⟨R, 0, none⟩) k.hr.1 _⟩, FrK.set h.r (.inl rfl) k.hr.2 0 _⟩
theorem KeG.setS {w A : World} {M X Y R S G H cn f t : Nat} {L : List (Int × Int)} (h : KeG w X Y R S G H cn f t L A) (k : KeK w M X Y R S G H) (t' : Nat) : KeG w X Y R S G H cn f t' L (A.setCell ⟨S, 0, none⟩ (.int .i64 t')) ∧ FrK M A (A.setCell ⟨S, 0, none⟩ (.int .i64 t')) := by
  obtain ⟨gc, g1, g2, g3⟩ := h.g
  obtain ⟨hc, h1, h2, h3⟩ := h.h
  have ne : ∀ {j : Nat} {o : Obj}, A.heap[j]? = some o → j ≠ S → (A.setCell ⟨S, 0, none⟩ (.int .i64 t')).heap[j]? = some o := fun hj hn => (Below.heap_setCell _ _ _ _ hn).trans hj
  have nx : X ≠ S := fun e => by have := h.x; rw [e, h.s] at this; simp at this
  have ny : Y ≠ S := fun e => by have := h.y; rw [e, h.s] at this; simp at this
  exact ⟨⟨ne h.x nx, ne h.y ny, ne h.r k.rs, heap_set_at A S 0 _ _ _ _ h.s, ⟨gc, ne g1 (Ne.symm k.sg), g2, g3⟩, ⟨hc, ne h1 (Ne.symm k.sh), h2, h3⟩, h.le, h.below.setCell (p := ⟨S, 0, none⟩) k.hs.1 _⟩, FrK.set h.s (.inl rfl) k.hs.2 0 _⟩
theorem take_set10 {gc : Array Value} {n : Nat} {xs : List Value} (h : gc.toList.take n = xs) (hn : n < gc.size) (u : Value) : (gc.setIfInBounds n u).toList.take (n + 1) = xs ++ [u] := by
  rw [Array.toList_setIfInBounds, List.take_add_one, List.take_set_of_le (Nat.le_refl _), h, List.getElem?_set_self (by simpa using hn)]
  rfl
/-- One place more in either list. -/
theorem KeG.put {w A : World} {M X Y R S G H cn f t : Nat} {L : List (Int × Int)} (h : KeG w X Y R S G H cn f t L A) (k : KeK w M X Y R S G H) (hn : L.length < cn) :
    KeG w X Y R S G H cn f t (L ++ [((f : Int), (t : Int))]) ((((A.setCell ⟨G, L.length, none⟩ (.int .i64 f)).setCell ⟨H, L.length, none⟩ (.int .i64 t)).setCell ⟨X, 0, none⟩ (.slice (some ⟨G, 0, none⟩) (L.length + 1) cn)).setCell ⟨Y, 0, none⟩ (.slice (some ⟨H, 0, none⟩) (L.length + 1) cn)) ∧
    FrK M A ((((A.setCell ⟨G, L.length, none⟩ (.int .i64 f)).setCell ⟨H, L.length, none⟩ (.int .i64 t)).setCell ⟨X, 0, none⟩ (.slice (some ⟨G, 0, none⟩) (L.length + 1) cn)).setCell ⟨Y, 0, none⟩ (.slice (some ⟨H, 0, none⟩) (L.length + 1) cn)) := by
  obtain ⟨gc, g1, g2, g3⟩ := h.g
  obtain ⟨hc, h1, h2, h3⟩ := h.h
  obtain ⟨n, hln⟩ : ∃ n, L.length = n := ⟨_, rfl⟩
  have hx := h.x
  have hy := h.y
  rw [hln] at hx hy g3 h3 hn ⊢
  have xg : X ≠ G := fun e => by rw [e, g1] at hx; simp at hx
  have xh : X ≠ H := fun e => by rw [e, h1] at hx; simp at hx
  have yg : Y ≠ G := fun e => by rw [e, g1] at hy; simp at hy
  have yh : Y ≠ H := fun e => by rw [e, h1] at hy; simp at hy
  have rx : R ≠ X := fun e => by have := h.r; rw [e, hx] at this; simp at this
  have ry : R ≠ Y := fun e => by have := h.r; rw [e, hy] at this; simp at this
  have sx : S ≠ X := fun e => by have := h.s; rw [e, hx] at this; simp at this
  have sy : S ≠ Y := fun e => by have := h.s; rw [e, hy] at this; simp at this
  have A1g := heap_set_at A G n (.int .i64 f) _ _ _ g1
  have A1h : (A.setCell ⟨G, n, none⟩ (.int .i64 f)).heap[H]? = some (.cells hc 3 (0, 0)) := (Below.heap_setCell _ _ _ _ (Ne.symm k.gh)).trans h1
  have A1x : (A.setCell ⟨G, n, none⟩ (.int .i64 f)).heap[X]? = some (.cells #[.slice (some ⟨G, 0, none⟩) n cn] 61 (0, 0)) := (Below.heap_setCell _ _ _ _ xg).trans hx
  have A1y : (A.setCell ⟨G, n, none⟩ (.int .i64 f)).heap[Y]? = some (.cells #[.slice (some ⟨H, 0, none⟩) n cn] 61 (0, 0)) := (Below.heap_setCell _ _ _ _ yg).trans hy
  have F1 := FrK.set g1 (.inl rfl) k.hg.2 n (.int .i64 f)
  obtain ⟨A1, hA1⟩ : ∃ W, W = A.setCell ⟨G, n, none⟩ (.int .i64 f) := ⟨_, rfl⟩
  have A1r : A1.heap[R]? = some (.cells #[.int .i64 f] 3 (0, 0)) := by rw [hA1]; exact (Below.heap_setCell _ _ _ _ k.rg).trans h.r
  have A1s : A1.heap[S]? = some (.cells #[.int .i64 t] 3 (0, 0)) := by rw [hA1]; exact (Below.heap_setCell _ _ _ _ k.sg).trans h.s
  have B1 : Below w.heap.size w A1 := by rw [hA1]; exact h.below.setCell (p := ⟨G, n, none⟩) k.hg.1 _
  rw [← hA1] at A1g A1h A1x A1y F1 ⊢
  have A2h := heap_set_at A1 H n (.int .i64 t) _ _ _ A1h
  have F2 := FrK.set A1h (.inl rfl) k.hh.2 n (.int .i64 t)
  obtain ⟨A2, hA2⟩ : ∃ W, W = A1.setCell ⟨H, n, none⟩ (.int .i64 t) := ⟨_, rfl⟩
  have A2g : A2.heap[G]? = some (.cells (gc.setIfInBounds n (.int .i64 f)) 3 (0, 0)) := by rw [hA2]; exact (Below.heap_setCell _ _ _ _ k.gh).trans A1g
  have A2x : A2.heap[X]? = some (.cells #[.slice (some ⟨G, 0, none⟩) n cn] 61 (0, 0)) := by rw [hA2]; exact (Below.heap_setCell _ _ _ _ xh).trans A1x
  have A2y : A2.heap[Y]? = some (.cells #[.slice (some ⟨H, 0, none⟩) n cn] 61 (0, 0)) := by rw [hA2]; exact (Below.heap_setCell _ _ _ _ yh).trans A1y
  have A2r : A2.heap[R]? = some (.cells #[.int .i64 f] 3 (0, 0)) := by rw [hA2]; exact (Below.heap_setCell _ _ _ _ k.rh).trans A1r
  have A2s : A2.heap[S]? = some (.cells #[.int .i64 t] 3 (0, 0)) := by rw [hA2]; exact (Below.heap_setCell _ _ _ _ k.sh).trans A1s
  have B2 : Below w.heap.size w A2 := by rw [hA2]; exact B1.setCell (p := ⟨H, n, none⟩) k.hh.1 _
  rw [← hA2] at A2h F2 ⊢
  have A3x := heap_set_at A2 X 0 (.slice (some ⟨G, 0, none⟩) (n + 1) cn) _ _ _ A2x
  have F3 := FrK.set A2x (.inr rfl) k.hx.2 0 (.slice (some ⟨G, 0, none⟩) (n + 1) cn)
  obtain ⟨A3, hA3⟩ : ∃ W, W = A2.setCell ⟨X, 0, none⟩ (.slice (some ⟨G, 0, none⟩) (n + 1) cn) := ⟨_, rfl⟩
  have A3g : A3.heap[G]? = some (.cells (gc.setIfInBounds n (.int .i64 f)) 3 (0, 0)) := by rw [hA3]; exact (Below.heap_setCell _ _ _ _ (Ne.symm xg)).trans A2g
  have A3h : A3.heap[H]? = some (.cells (hc.setIfInBounds n (.int .i64 t)) 3 (0, 0)) := by rw [hA3]; exact (Below.heap_setCell _ _ _ _ (Ne.symm xh)).trans A2h
  have A3y : A3.heap[Y]? = some (.cells #[.slice (some ⟨H, 0, none⟩) n cn] 61 (0, 0)) := by rw [hA3]; exact (Below.heap_setCell _ _ _ _ (Ne.symm k.xy)).trans A2y
  have A3r : A3.heap[R]? = some (.cells #[.int .i64 f] 3 (0, 0)) := by rw [hA3]; exact (Below.heap_setCell _ _ _ _ rx).trans A2r
  have A3s : A3.heap[S]? = some (.cells #[.int .i64 t] 3 (0, 0)) := by rw [hA3]; exact (Below.heap_setCell _ _ _ _ sx).trans A2s
  have B3 : Below w.heap.size w A3 := by rw [hA3]; exact B2.setCell (p := ⟨X, 0, none⟩) k.hx.1 _
  rw [← hA3] at A3x F3 ⊢
  have A4y := heap_set_at A3 Y 0 (.slice (some ⟨H, 0, none⟩) (n + 1) cn) _ _ _ A3y
  have F4 := FrK.set A3y (.inr rfl) k.hy.2 0 (.slice (some ⟨H, 0, none⟩) (n + 1) cn)
  have ll : (L ++ [((f : Int), (t : Int))]).length = n + 1 := by rw [List.length_append, hln]; rfl
  refine ⟨⟨?_, ?_, (Below.heap_setCell _ _ _ _ ry).trans A3r, (Below.heap_setCell _ _ _ _ sy).trans A3s, ⟨_, (Below.heap_setCell _ _ _ _ (Ne.symm yg)).trans A3g, ?_, ?_⟩, ⟨_, (Below.heap_setCell _ _ _ _ (Ne.symm yh)).trans A3h, ?_, ?_⟩, by rw [ll]; omega, B3.setCell (p := ⟨Y, 0, none⟩) k.hy.1 _⟩, ((F1.trans F2).trans F3).trans F4⟩
  · rw [ll]; exact (Below.heap_setCell _ _ _ _ k.xy).trans A3x
  · rw [ll]; exact A4y
  · simpa using g2
  · rw [ll, List.map_append]; exact take_set10 g3 (by omega) _
  · simpa using h2
  · rw [ll, List.map_append]; exact take_set10 h3 (by omega) _

/-! One round of the loop over a piece: both lists grow in one statement that draws its order. -/
structure Q5 (X Y R S G H cn n f t : Nat) (W : World) : Prop where
  x : W.heap[X]? = some (.cells #[.slice (some ⟨G, 0, none⟩) n cn] 61 (0, 0))
  y : W.heap[Y]? = some (.cells #[.slice (some ⟨H, 0, none⟩) n cn] 61 (0, 0))
  r : W.heap[R]? = some (.cells #[.int .i64 f] 3 (0, 0))
  s : W.heap[S]? = some (.cells #[.int .i64 t] 3 (0, 0))
  g : ∃ gc : Array Value, W.heap[G]? = some (.cells gc 3 (0, 0)) ∧ gc.size = cn
  h : ∃ hc : Array Value, W.heap[H]? = some (.cells hc 3 (0, 0)) ∧ hc.size = cn
theorem KeG.q5 {w A : World} {X Y R S G H cn f t n : Nat} {L : List (Int × Int)} (h : KeG w X Y R S G H cn f t L A) (hn : L.length = n) : Q5 X Y R S G H cn n f t A := by
  obtain ⟨gc, g1, g2, _⟩ := h.g
  obtain ⟨hc, h1, h2, _⟩ := h.h
  have hx := h.x
  have hy := h.y
  rw [hn] at hx hy
  exact ⟨hx, hy, h.r, h.s, ⟨gc, g1, g2⟩, ⟨hc, h1, h2⟩⟩
theorem Q5.drew {W : World} {X Y R S G H cn n f t : Nat} (h : Q5 X Y R S G H cn n f t W) : Q5 X Y R S G H cn n f t W.drew := ⟨h.x, h.y, h.r, h.s, h.g, h.h⟩
theorem Q5.alloc {W : World} {X Y R S G H cn n f t : Nat} (h : Q5 X Y R S G H cn n f t W) (o : Obj) : Q5 X Y R S G H cn n f t (W.alloc o) := by
  have b : Below W.heap.size W (W.alloc o) := (Below.refl _ _).alloc (Nat.le_refl _) _
  obtain ⟨gc, g1, g2⟩ := h.g
  obtain ⟨hc, h1, h2⟩ := h.h
  exact ⟨heap_below b h.x, heap_below b h.y, heap_below b h.r, heap_below b h.s, ⟨gc, heap_below b g1, g2⟩, ⟨hc, heap_below b h1, h2⟩⟩
theorem Q5.setG {w W : World} {M X Y R S G H cn n f t : Nat} (h : Q5 X Y R S G H cn n f t W) (k : KeK w M X Y R S G H) (i : Nat) (u : Value) : Q5 X Y R S G H cn n f t (W.setCell ⟨G, i, none⟩ u) := by
  obtain ⟨gc, g1, g2⟩ := h.g
  obtain ⟨hc, h1, h2⟩ := h.h
  have xg : X ≠ G := fun e => by have := h.x; rw [e, g1] at this; simp at this
  have yg : Y ≠ G := fun e => by have := h.y; rw [e, g1] at this; simp at this
  exact ⟨(Below.heap_setCell _ _ _ _ xg).trans h.x, (Below.heap_setCell _ _ _ _ yg).trans h.y, (Below.heap_setCell _ _ _ _ k.rg).trans h.r, (Below.heap_setCell _ _ _ _ k.sg).trans h.s, ⟨_, heap_set_at W G i u _ _ _ g1, by simpa using g2⟩, ⟨hc, (Below.heap_setCell _ _ _ _ (Ne.symm k.gh)).trans h1, h2⟩⟩
theorem Q5.setH {w W : World} {M X Y R S G H cn n f t : Nat} (h : Q5 X Y R S G H cn n f t W) (k : KeK w M X Y R S G H) (i : Nat) (u : Value) : Q5 X Y R S G H cn n f t (W.setCell ⟨H, i, none⟩ u) := by
  obtain ⟨gc, g1, g2⟩ := h.g
  obtain ⟨hc, h1, h2⟩ := h.h
  have xh : X ≠ H := fun e => by have := h.x; rw [e, h1] at this; simp at this
  have yh : Y ≠ H := fun e => by have := h.y; rw [e, h1] at this; simp at this
  exact ⟨(Below.heap_setCell _ _ _ _ xh).trans h.x, (Below.heap_setCell _ _ _ _ yh).trans h.y, (Below.heap_setCell _ _ _ _ k.rh).trans h.r, (Below.heap_setCell _ _ _ _ k.sh).trans h.s, ⟨gc, (Below.heap_setCell _ _ _ _ k.gh).trans g1, g2⟩, ⟨_, heap_set_at W H i u _ _ _ h1, by simpa using h2⟩⟩
theorem Q5.cells {W : World} {X Y R S G H cn n f t : Nat} (h : Q5 X Y R S G H cn n f t W) : W.cell? ⟨X, 0, none⟩ = some (.slice (some ⟨G, 0, none⟩) n cn) ∧ W.cell? ⟨Y, 0, none⟩ = some (.slice (some ⟨H, 0, none⟩) n cn) ∧ W.cell? ⟨R, 0, none⟩ = some (.int .i64 f) ∧ W.cell? ⟨S, 0, none⟩ = some (.int .i64 t) :=
  ⟨by rw [cell_of_heap h.x]; rfl, by rw [cell_of_heap h.y]; rfl, by rw [cell_of_heap h.r]; rfl, by rw [cell_of_heap h.s]; rfl⟩
theorem spare10 {W : World} {G cn n : Nat} (h : ∃ gc : Array Value, W.heap[G]? = some (.cells gc 3 (0, 0)) ∧ gc.size = cn) (hn : n < cn) (u : Value) : ∀ j, j < [u].length → (W.cell? ⟨G, 0 + n * 1 + j, none⟩).isSome = true ∧ W.frozen? ⟨G, 0 + n * 1 + j, none⟩ = false := fun j hj => by
  obtain ⟨gc, g1, g2⟩ := h
  have hj0 : j = 0 := by simpa using hj
  subst hj0
  refine ⟨?_, frozen_of_heap g1 _⟩
  rw [cell_of_heap g1, Array.getElem?_eq_getElem (by omega)]
  rfl
theorem news10 (u : Value) (B : Nat) {W' : World} (h : W'.heap[B]? = some (.cells #[u] 3 (0, 0))) : ∀ j v, [u][j]? = some v → W'.cell? (Addr.add ⟨B, 0, none⟩ j) = some v := fun j v hv => by
  cases j with
  | zero =>
    obtain rfl : u = v := by simpa using hv
    rw [Addr.add_lit, cell_of_heap h]; rfl
  | succ j => simp at hv
theorem setCells_one10 (W : World) (g n : Nat) (u : Value) : W.setCells g (0 + n * 1) [u] = W.setCell ⟨g, n, none⟩ u := by rw [Nat.zero_add, Nat.mul_one]; rfl
theorem alloc_set10 (W : World) (g i : Nat) (u : Value) (o : Obj) (h : g < W.heap.size) : (W.setCell ⟨g, i, none⟩ u).alloc o = (W.alloc o).setCell ⟨g, i, none⟩ u := by
  unfold World.alloc World.setCell
  simp only
  congr 1
  apply Array.ext
  · simp
  · intro k h1 h2
    simp only [Array.size_push, Array.size_modify] at h1
    rw [Array.getElem_push, Array.getElem_modify]
    by_cases hk : k < W.heap.size
    · simp only [Array.size_modify, hk, dif_pos, Array.getElem_modify, Array.getElem_push]
    · have : k ≠ g := by omega
      simp only [Array.size_modify, hk, dif_neg, not_false_eq_true, Array.getElem_push]
      rw [if_neg (Ne.symm this)]
theorem KeG.leaf {w A wr : World} {M X Y R S G H cn f t n : Nat} {L : List (Int × Int)} (h : KeG w X Y R S G H cn f t L wr) (fr : FrK M A wr) (k : KeK w M X Y R S G H) (hl : L.length = n) (hn : n < cn) (o1 o2 : Obj) :
    KeG w X Y R S G H cn f t (L ++ [((f : Int), (t : Int))]) ((((((wr.drew.alloc o1).alloc o2).setCell ⟨G, n, none⟩ (.int .i64 f)).setCell ⟨H, n, none⟩ (.int .i64 t)).setCell ⟨X, 0, none⟩ (.slice (some ⟨G, 0, none⟩) (n + 1) cn)).setCell ⟨Y, 0, none⟩ (.slice (some ⟨H, 0, none⟩) (n + 1) cn)) ∧
    FrK M A ((((((wr.drew.alloc o1).alloc o2).setCell ⟨G, n, none⟩ (.int .i64 f)).setCell ⟨H, n, none⟩ (.int .i64 t)).setCell ⟨X, 0, none⟩ (.slice (some ⟨G, 0, none⟩) (n + 1) cn)).setCell ⟨Y, 0, none⟩ (.slice (some ⟨H, 0, none⟩) (n + 1) cn)) := by
  subst hl
  have b : Below wr.heap.size wr ((wr.drew.alloc o1).alloc o2) := ((Below.refl wr.heap.size wr).drew.alloc (Nat.le_refl _) _).alloc (by rw [World.size_alloc]; exact Nat.le_succ _) _
  obtain ⟨p1, p2⟩ := (h.mono b).put k hn
  exact ⟨p1, (fr.trans (FrK.of_below b)).trans p2⟩
theorem step_room10 {P : Program} {ops : Array Oper} {o : Oper} {a : Act} {ts : Array Value} {w : World} {K : Act → World → Prop} {Q : Exit → Act → World → Prop} {E : Prop}
    (hg : o.guard = none) (s x : Operand) (t : TypeId) (hop : o.op = Op.call { callee := Callee.builtin Builtin.append, args := #[s, x], argTypes := #[t, t] })
    (e : TypeId) (i : TypeInfo) (h1 : P.underlying t = some (.slice e)) (h2 : P.info? e = some i) (h4 : i.size = 1)
    (b n cap : Nat) (hs : a.eval s = .slice (some ⟨b, 0, none⟩) n cap) (ad : Nat) (u : Value) (hx : a.eval x = .slice (some ⟨ad, 0, none⟩) 1 1) (hc : ∀ j v, [u][j]? = some v → w.cell? (Addr.add ⟨ad, 0, none⟩ j) = some v) (h1c : u.oneCell' = true)
    (hroom : n < cap) (hspare : ∀ j, j < [u].length → (w.cell? ⟨b, 0 + n * 1 + j, none⟩).isSome = true ∧ w.frozen? ⟨b, 0 + n * 1 + j, none⟩ = false)
    (hK : K (a.put o.dst (.slice (some ⟨b, 0, none⟩) (n + 1) cap)) (w.setCell ⟨b, n, none⟩ u)) :
    if Region.wanted o (yielded ops ts) = true then Oper.wp P o a w K Q else E := by
  have h := step_append_room (ops := ops) (E := E) (Q := Q) hg s x t hop e i 1 h1 h2 h4 b 0 n cap hs ⟨ad, 0, none⟩ 1 1 [u] hx rfl hc (fun v hv => by rw [List.mem_singleton.1 hv]; exact h1c) hroom hspare (by rw [setCells_one10]; exact hK)
  have e1 : ∀ ts, Region.wanted o (yielded ops ts) = true := fun ts => by simp [Region.wanted, hg]
  rw [if_pos (e1 _)] at h
  rw [if_pos (e1 _)]
  exact h
theorem step_box10 {P : Program} {ops : Array Oper} {o : Oper} {a : Act} {ts : Array Value} {w w' : World} {K : Act → World → Prop} {Q : Exit → Act → World → Prop} {E : Prop} {v : Value}
    (hg : o.guard = none) (t : TypeId) (x : Operand) (hop : o.op = .buildSlice t 1 #[(0, x)]) (u : Value) (hx : a.eval x = u) (hr : (Instr.buildSlice t 1 #[(0, u)]).run P w = .ok v w') (hK : K (a.put o.dst v) w') :
    if Region.wanted o (yielded ops ts) = true then Oper.wp P o a w K Q else E := by
  have e1 : Region.wanted o (yielded ops ts) = true := by simp [Region.wanted, hg]
  rw [if_pos e1]
  have hp : ((#[(0, x)] : Array (Nat × Operand)).map fun (i, x) => (i, a.eval x)) = #[(0, u)] := by simp [hx]
  unfold Oper.wp execOp
  simp only [hop, Sem.run_bind, hp, hr, Result.andThen_ok]
  exact hK
theorem run_box10 (w : World) (u : Int) : (Instr.buildSlice 61 1 #[(0, .int .i64 u)]).run Tryz.prog w = .ok (.slice (some ⟨w.heap.size, 0, none⟩) 1 1) (w.alloc (.cells #[.int .i64 u] 3)) := by
  obtain ⟨ie, hie, hz⟩ := Option.map_eq_some_iff.1 (show (Tryz.prog.info? 3).map (fun i => (i.zero, i.size)) = some (some (.int .i64 0), 1) by kernel_rfl)
  simp only [Prod.mk.injEq] at hz
  exact Go.run_buildSlice w _ 3 1 _ #[.int .i64 u] ie _ Tryz.underlying61 hie hz.1 (by rw [hz.2]; omega) (by rw [hz.2]; omega) (by rw [hz.2]; kernel_rfl)
theorem run_boxn10 (w : World) (u : Int) (n : Nat) (hn : w.heap.size = n) : (Instr.buildSlice 61 1 #[(0, .int .i64 u)]).run Tryz.prog w = .ok (.slice (some ⟨n, 0, none⟩) 1 1) (w.alloc (.cells #[.int .i64 u] 3)) := hn ▸ run_box10 w u
theorem kz2 (wr : World) (o : Obj) : (wr.drew.alloc o).heap.size = wr.heap.size + 1 := World.size_alloc _ _
theorem kz3 (wr : World) (o : Obj) (g i : Nat) (u : Value) : ((wr.drew.alloc o).setCell ⟨g, i, none⟩ u).heap.size = wr.heap.size + 1 := by
  have e0 : ((wr.drew.alloc o).setCell ⟨g, i, none⟩ u).heap.size = (wr.drew.alloc o).heap.size := by simp [World.setCell]
  exact e0.trans (World.size_alloc _ _)
theorem tr7_put10 {T : TypeId → Prop} {B D : Nat} {W : World} {o o' : Obj} (hK : W.heap[D]? = some o) (hB : B ≤ D) (ho : o.isCells = false := by rfl) : Tr7 T B W (W.putObj D o') :=
  ⟨rfl, rfl, rfl, by simp, fun k x hk hx => by
    have : k ≠ D := fun e => by
      subst e; rw [hK] at hk; cases hk
      rcases hx with hx | ⟨_, _, _, e, _⟩
      · omega
      · rw [e] at ho; cases ho
    exact (World.putObj_heap_other this).trans hk⟩
theorem ke_own {A : World} {B G cn : Nat} {P : List Value} (hB : B ≤ G) (h : ∃ gc : Array Value, A.heap[G]? = some (.cells gc 3 (0, 0)) ∧ gc.size = cn ∧ gc.toList.take P.length = P) (hle : P.length ≤ cn) (hcn : (cn : Int) ≤ 1099511627776) : OwnZ A B (.slice (some ⟨G, 0, none⟩) P.length cn) P := by
  obtain ⟨gc, h1, h2, h3⟩ := h
  exact ⟨by rw [Nat.mul_one], .inr ⟨G, cn, gc, rfl, hB, h1, hle, by unfold maxLen; omega, by rw [Nat.mul_one, h2], by rw [Nat.mul_one]; exact h3⟩⟩
theorem KeG.leave {w A : World} {M D X Y R S G H cn f t : Nat} {L : List (Int × Int)} {d : Obj} (h : KeG w X Y R S G H cn f t L A) (k : KeK w M X Y R S G H) (hM : w.heap.size ≤ M) (hD : M ≤ D) (hK : A.heap[D]? = some d) (hd : d.isCells = false) (hcn : (cn : Int) ≤ 1099511627776) (o' : Obj) :
    OwnZ (A.putObj D o') w.heap.size (.slice (some ⟨G, 0, none⟩) L.length cn) (L.map fun x => .int .i64 x.1) ∧ OwnZ (A.putObj D o') w.heap.size (.slice (some ⟨H, 0, none⟩) L.length cn) (L.map fun x => .int .i64 x.2) ∧ Below w.heap.size w (A.putObj D o') := by
  obtain ⟨gc, g1, g2, g3⟩ := h.g
  obtain ⟨hc, h1, h2, h3⟩ := h.h
  have e1 : (A.putObj D o').heap[G]? = A.heap[G]? := World.putObj_heap_other (by have := k.hg; omega)
  have e2 : (A.putObj D o').heap[H]? = A.heap[H]? := World.putObj_heap_other (by have := k.hh; omega)
  have l1 : (L.map fun x : Int × Int => Value.int .i64 x.1).length = L.length := List.length_map ..
  have l2 : (L.map fun x : Int × Int => Value.int .i64 x.2).length = L.length := List.length_map ..
  have a := ke_own (A := A.putObj D o') (P := L.map fun x => .int .i64 x.1) k.hg.1 ⟨gc, e1.trans g1, g2, by rw [l1]; exact g3⟩ (by rw [l1]; exact h.le) hcn
  have b := ke_own (A := A.putObj D o') (P := L.map fun x => .int .i64 x.2) k.hh.1 ⟨hc, e2.trans h1, h2, by rw [l2]; exact h3⟩ (by rw [l2]; exact h.le) hcn
  rw [l1] at a
  rw [l2] at b
  exact ⟨a, b, tr_below8 h.below (Nat.le_refl _) hM (tr7_put10 (T := TW) hK hD hd)⟩
theorem kept_leave (A : World) (D : Nat) (tmps : Array Value) (u v : Value) {R : Value → Value → World → Prop} (h4 : tmps[4]? = some u) (h5 : tmps[5]? = some v) (h6 : tmps[6]? = some .nilIface) (hK : A.heap[D]? = some (.deferred (some []))) (h : R u v (A.putObj D (.deferred none))) :
    bodyPostM Fence.wide 15 Tryz.prog Tryz.f77 (fun r w' => ∃ v1 v2, r = .returned (.tuple #[v1, v2, .nilIface]) ∧ R v1 v2 w') Exit.ret { tmps := tmps, defers := [{ target := .collected D, args := #[] }] } A := by
  refine ⟨by simp, .inl ⟨_, _, rfl, run_takeDeferred hK, ?_⟩⟩
  refine ⟨.tuple #[u, v, .nilIface], ?_, ⟨u, v, rfl, h⟩⟩
  simp [results, Tryz.results77, go_sem, h4, h5, h6]
theorem Hid.mk10 {P : Prop} (h : P) : Hid P := h
theorem kx1 (wr : World) (o : Obj) : (wr.drew.alloc o).heap[wr.heap.size]? = some o := heap_alloc_new wr.drew o
theorem kx2 (wr : World) (o o' : Obj) (g i : Nat) (u : Value) : (((wr.drew.alloc o).setCell ⟨g, i, none⟩ u).alloc o').heap[wr.heap.size + 1]? = some o' := by
  have := heap_alloc_new ((wr.drew.alloc o).setCell ⟨g, i, none⟩ u) o'
  have e0 : ((wr.drew.alloc o).setCell ⟨g, i, none⟩ u).heap.size = (wr.drew.alloc o).heap.size := by simp [World.setCell]
  have e : ((wr.drew.alloc o).setCell ⟨g, i, none⟩ u).heap.size = wr.heap.size + 1 := e0.trans (World.size_alloc _ _)
  rwa [e] at this
theorem kx3 (wr : World) (o o' : Obj) : ((wr.drew.alloc o).alloc o').heap[wr.heap.size]? = some o := by
  rw [Below.heap_alloc _ _ _ (by rw [World.size_alloc]; exact Nat.lt_succ_self _)]; exact kx1 wr o
theorem kx4 (wr : World) (o o' : Obj) : ((wr.drew.alloc o).alloc o').heap[wr.heap.size + 1]? = some o' := by
  have := heap_alloc_new (wr.drew.alloc o) o'
  rwa [World.size_alloc] at this
theorem kx5 (wr : World) (o o' : Obj) {g : Nat} (h : g < wr.heap.size) (i : Nat) (u : Value) : (((wr.drew.alloc o).alloc o').setCell ⟨g, i, none⟩ u).heap[wr.heap.size]? = some o := (Below.heap_setCell _ _ _ _ (by show wr.heap.size ≠ g; omega)).trans (kx3 wr o o')
theorem kx6 (wr : World) (o o' : Obj) {g : Nat} (h : g < wr.heap.size) (i : Nat) (u : Value) : (((wr.drew.alloc o).alloc o').setCell ⟨g, i, none⟩ u).heap[wr.heap.size + 1]? = some o' := (Below.heap_setCell _ _ _ _ (by show wr.heap.size + 1 ≠ g; omega)).trans (kx4 wr o o')
theorem Q5.fx {W : World} {X Y R S G H cn n f t : Nat} (h : Q5 X Y R S G H cn n f t W) : W.frozen? ⟨X, 0, none⟩ = false := frozen_of_heap h.x 0
/-- Behind the store into the first box. -/
theorem Q5.fy {w W : World} {M X Y R S G H cn n f t : Nat} (h : Q5 X Y R S G H cn n f t W) (k : KeK w M X Y R S G H) (u : Value) : (W.setCell ⟨X, 0, none⟩ u).cell? ⟨Y, 0, none⟩ = some (.slice (some ⟨H, 0, none⟩) n cn) ∧ (W.setCell ⟨X, 0, none⟩ u).frozen? ⟨Y, 0, none⟩ = false := by
  have e := (Below.heap_setCell W ⟨X, 0, none⟩ u Y (Ne.symm k.xy)).trans h.y
  exact ⟨by rw [cell_of_heap e]; rfl, frozen_of_heap e 0⟩
theorem ke_post2 {w A wr : World} {M X Y R S G H cn f t : Nat} {E F : List Op5} {L : List (Int × Int)} {pre : List (Value × Value)} (x : Value × Value) (C : Nat) (h : KeG w X Y R S G H cn f t L wr) (fr : FrK M A wr)
    (h1 : far10 E F (pre.length + 1) = f) (h2 : put10 E F (pre.length + 1) = t) (h3 : sty10 E F (pre.length + 1) = L) :
    KeepsFrom M A wr ∧ KS8 M C A wr ∧ KeG w X Y R S G H cn (far10 E F (pre ++ [x]).length) (put10 E F (pre ++ [x]).length) (sty10 E F (pre ++ [x]).length) wr := by
  rw [List.length_append, show ([x] : List (Value × Value)).length = 1 from rfl, h1, h2, h3]
  exact ⟨fr.from, fr.ks, h⟩
theorem KeG.next {w A Wf : World} {M X Y R S G H cn f t : Nat} {L : List (Int × Int)} (h : KeG w X Y R S G H cn f t L Wf) (fr : FrK M A Wf) (k : KeK w M X Y R S G H) :
    KeG w X Y R S G H cn (f + 1) (t + 1) L ((Wf.setCell ⟨R, 0, none⟩ (.int .i64 ((f : Int) + 1))).setCell ⟨S, 0, none⟩ (.int .i64 ((t : Int) + 1))) ∧ FrK M A ((Wf.setCell ⟨R, 0, none⟩ (.int .i64 ((f : Int) + 1))).setCell ⟨S, 0, none⟩ (.int .i64 ((t : Int) + 1))) := by
  obtain ⟨a1, a2⟩ := h.setR k (f + 1)
  obtain ⟨b1, b2⟩ := a1.setS k (t + 1)
  rw [show ((f + 1 : Nat) : Int) = (f : Int) + 1 by omega, show ((t + 1 : Nat) : Int) = (t : Int) + 1 by omega] at b1 b2
  rw [show ((f + 1 : Nat) : Int) = (f : Int) + 1 by omega] at a2
  exact ⟨b1, (fr.trans a2).trans b2⟩
end Go.Proofs.YtplnojapnaaakaaGreatDoor

/- A region that draws its order, in a round of a range over a function: the plain kit's walk of it (held at S) serves: its laws, and those by which it is walked by hand. -/
namespace Go.Proofs.YtplnojapnaaakaaGreatDoor
open Go
set_option linter.unusedVariables false

section
variable {n l : Nat} {P : Program} {ops : Array Oper} {Q : Exit → Act → World → Prop} {md : Region.Mode} {S : World → Prop}
theorem op_round {o : Oper} {a : Act} {w : World} {K : Act → World → Prop} (hd : ∀ c, o.op ≠ .defer c) (h : o.wp P a w K Q) : o.wpIn (Fence.wide.inRound l) n P a w K Q := by
  refine ⟨fun _ _ => trivial, ?_⟩
  rw [Oper.semAt_plain _ _ _ hd]
  unfold Oper.wp at h
  generalize (execOp a.eval o).run P w = r at *
  cases r with
  | ok x w' =>
    cases x <;> simp only [Oper.upon, Oper.uponIn] at h ⊢ <;>
      first
        | exact h
        | exact ⟨fun hh => (by cases hh), CallsIn.inRound l (callsIn_wide.2 h)⟩
        | (refine ⟨fun hh => (by cases hh), fun c cs hr => ?_⟩
           obtain ⟨v, w'', r, s⟩ := h c cs
           exact ⟨v, w'', r, stepsIn_wide.2 s⟩)
  | halt x w' => cases x <;> simp only [Oper.upon, Oper.uponIn] at h ⊢ <;> exact h
theorem any_round (hno : ¬ LetsOut Q) (hd : ∀ (i : Nat) (o : Oper), ops[i]? = some o → ∀ c, o.op ≠ .defer c) : ∀ (fuel : Nat) (listed : Array Bool) (a : Act) (w : World), wpAny P md ops Q fuel listed a w → wpAnyIn (Fence.wide.inRound l) n P md ops Q fuel listed a w
  | 0, _, _, _, h => h
  | fuel + 1, listed, a, w, h => by
    refine ⟨h.1, fun i hi => ?_⟩
    have hh := h.2 i hi
    unfold wpOp at hh
    unfold wpOpIn
    cases ho : ops[i]? with
    | none => rw [ho] at hh; exact any_round hno hd fuel _ _ _ hh
    | some o =>
      rw [ho] at hh
      simp only at hh ⊢
      split
      · rename_i hw
        rw [if_pos hw] at hh
        exact Oper.wpIn_mono (fun a w => any_round hno hd fuel _ a w) (op_round (hd i o ho) (hh.elim id fun h => (hno h.2).elim))
      · rename_i hw
        rw [if_neg hw] at hh
        exact ⟨fun _ _ => trivial, any_round hno hd fuel _ _ _ hh⟩
end
/-- An operation that never comes up. -/
def dOp : Oper := { dst := none, op := Op.move (.tmp 0), type := 0, pos := "", after := #[], guard := none }
/-- The operation with number i. -/
def nthO (d : Oper) : List Oper → Nat → Oper
  | [], _ => d
  | o :: _, 0 => o
  | _ :: t, i + 1 => nthO d t i
section
variable {P : Program} {Q : Exit → Act → World → Prop} {md : Region.Mode} {S : World → Prop}
end
end Go.Proofs.YtplnojapnaaakaaGreatDoor

/- A region that draws its order, in a round of a range over a function, whose loads come ahead of its stores: the loads are taken first, under a condition that hangs on what has come up. -/
namespace Go.Proofs.YtplnojapnaaakaaGreatDoor
open Go
set_option linter.unusedVariables false

section
variable {P : Program} {ops : Array Oper} {Q : Exit → Act → World → Prop} {md : Region.Mode} {S : Array Bool → World → Prop}
/-- Whatever order is picked from here on, with S behind every operation. -/
def wpAnyG (P : Program) (md : Region.Mode) (ops : Array Oper) (Q : Exit → Act → World → Prop) (S : Array Bool → World → Prop) : Nat → Array Bool → Act → World → Prop
  | 0, listed, a, w => Region.ready md ops listed = [] ∧ Q .normal a w
  | k + 1, listed, a, w =>
    (Region.ready md ops listed = [] → Q .normal a w) ∧
    ∀ i ∈ Region.ready md ops listed, wpOp P ops Q i (fun a' w' => S (listed.setIfInBounds i true) w' ∧ wpAnyG P md ops Q S k (listed.setIfInBounds i true) a' w') a w
theorem any_of_G : ∀ (k : Nat) (listed : Array Bool) (a : Act) (w : World), wpAnyG P md ops Q S k listed a w → wpAny P md ops Q k listed a w
  | 0, _, _, _, h => h
  | k + 1, _, _, _, h => ⟨h.1, fun i hi => wpOp_mono (fun a' w' h' => any_of_G k _ a' w' h'.2) (h.2 i hi)⟩
/-- The worlds where a certain operation may still come up. -/
def Yet (S : Array Bool → World → Prop) (st : List Nat) (i : Nat) (w : World) : Prop := ∃ l : Array Bool, l.getD i true = false ∧ (∀ s ∈ st, l.getD s true = false) ∧ S l w
/-- Certain operations wait for one. -/
def waits (md : Region.Mode) (ops : Array Oper) (st : List Nat) (i : Nat) : Bool := st.all fun s => s != i && match ops[s]? with | some o => o.after.any fun e => Region.binds md e && (e.on == i || st.contains e.on) | none => true
theorem waits_of {md : Region.Mode} {ops : Array Oper} {st : List Nat} {i s : Nat} (h : waits md ops st i = true) (hs : s ∈ st) : s ≠ i ∧ ∀ o, ops[s]? = some o → ∃ e ∈ o.after, Region.binds md e = true ∧ (e.on = i ∨ e.on ∈ st) := by
  unfold waits at h
  have := List.all_eq_true.1 h s hs
  simp only [Bool.and_eq_true, bne_iff_ne] at this
  refine ⟨this.1, fun o ho => ?_⟩
  have h2 := this.2
  rw [ho] at h2
  obtain ⟨e, he, h3⟩ := Array.any_eq_true'.1 h2
  simp only [Bool.and_eq_true, Bool.or_eq_true, beq_iff_eq, List.contains_iff_mem] at h3
  exact ⟨e, he, h3.1, h3.2⟩
theorem G_first {i : Nat} {oi : Oper} {v : Value} (hi : ops[i]? = some oi) (hsel : ∀ (j : Nat) (o : Oper) cs b, ops[j]? = some o → o.op ≠ .select cs b)
    (hQ : ∀ c a w, Q (.panic c) (a.put oi.dst v) w → Q (.panic c) a w) (hSi : ∀ (l : Array Bool) (w : World), S (l.setIfInBounds i true) w ↔ S l w) {st : List Nat} (hst : waits md ops st i = true) :
    ∀ (k : Nat) (listed : Array Bool) (a : Act) (w : World), (∀ s ∈ st, listed.getD s true = false) →
      (∀ j oj, ops[j]? = some oj → j ≠ i → listed.getD j true = false → (∀ e ∈ oj.after, Region.binds md e = true → e.on ≠ i) → oi.apart ops oj = true) →
      i ∈ Region.ready md ops listed → YieldsIf P ops (Yet S st i) oi v a → S listed w →
      wpAnyG P md ops Q S k (listed.setIfInBounds i true) (a.put oi.dst v) w → wpAnyG P md ops Q S (k + 1) listed a w := by
  intro k
  have own : ∀ (k : Nat) (listed : Array Bool) (a : Act) (w : World), (∀ s ∈ st, listed.getD s true = false) → i ∈ Region.ready md ops listed → YieldsIf P ops (Yet S st i) oi v a → S listed w → wpAnyG P md ops Q S k (listed.setIfInBounds i true) (a.put oi.dst v) w →
      wpOp P ops Q i (fun a' w' => S (listed.setIfInBounds i true) w' ∧ wpAnyG P md ops Q S k (listed.setIfInBounds i true) a' w') a w := fun k listed a w hl hr hy hS H =>
    hy.wpOp hi ⟨listed, (mem_ready.1 hr).1, hl, hS⟩ ⟨(hSi listed w).2 hS, H⟩
  induction k with
  | zero =>
    intro listed a w hl _ hr hy hS H
    refine ⟨fun h => (by rw [h] at hr; cases hr), fun j hj => ?_⟩
    by_cases hji : j = i
    · rw [hji]; exact own 0 listed a w hl hr hy hS H
    · have := ready_mono hj hji
      rw [H.1] at this
      cases this
  | succ k ih =>
    intro listed a w hl hfree hr hy hS H
    refine ⟨fun h => (by rw [h] at hr; cases hr), fun j hj => ?_⟩
    by_cases hji : j = i
    · rw [hji]; exact own (k + 1) listed a w hl hr hy hS H
    · have h1 := H.2 j (ready_mono hj hji)
      obtain ⟨hjun, oj, hoj, hall⟩ := mem_ready.1 hj
      have hnx : ∀ e ∈ oj.after, Region.binds md e = true → ∀ x, listed.getD x true = false → e.on ≠ x := fun e he hb x h0 heq => by
        have h1 := hall e he hb
        rw [heq] at h1
        rcases Nat.lt_or_ge x listed.size with h' | h'
        · simp [h'] at h0 h1; rw [h0] at h1; cases h1
        · simp [Array.getElem?_eq_none h'] at h1
      have hnot : ∀ e ∈ oj.after, Region.binds md e = true → e.on ≠ i := fun e he hb => hnx e he hb i (mem_ready.1 hr).1
      have h2 := wpOp_putIf (S := Yet S st i) hoj (hfree j oj hoj hji hjun hnot) (fun cs b => hsel i oi cs b hi) (fun cs b => hsel j oj cs b hoj) hQ hy h1
      have hfree' : ∀ x ox, ops[x]? = some ox → x ≠ i → (listed.setIfInBounds j true).getD x true = false →
          (∀ e ∈ ox.after, Region.binds md e = true → e.on ≠ i) → oi.apart ops ox = true := fun x ox hx hxi hun hno => by
        refine hfree x ox hx hxi ?_ hno
        by_cases hjx : j = x
        · subst hjx; exact hjun
        · rw [getD_set_ne true hjx] at hun; exact hun
      refine wpOp_mono (fun a' w' h3 => ?_) h2
      obtain ⟨y1, y2, y3⟩ := h3
      rw [Array.setIfInBounds_comm _ _ (Ne.symm hji)] at y2 y3
      have y4 := (hSi _ _).1 y2
      have hl' : ∀ s ∈ st, (listed.setIfInBounds j true).getD s true = false := fun s hs => by
        have hjs : j ≠ s := fun e => by
          subst e
          obtain ⟨e, he, hb, ho⟩ := (waits_of hst hs).2 oj hoj
          rcases ho with ho | ho
          · exact hnot e he hb ho
          · exact hnx e he hb _ (hl _ ho) rfl
        rw [getD_set_ne true hjs]; exact hl s hs
      exact ⟨y4, ih (listed.setIfInBounds j true) a' w' hl' hfree' (ready_mono hr (Ne.symm hji)) y1 y4 y3⟩
end
section
variable {n l : Nat} {P : Program} {ops : Array Oper} {Q : Exit → Act → World → Prop} {md : Region.Mode} {S : Array Bool → World → Prop}
theorem region_round_G {id : Nat} {a : Act} {w : World} (hm : P.follows .mixedOrders = true) (hd : (ops.all fun o => match o.op with | .defer _ => false | _ => true) = true) (hno : ¬ LetsOut Q)
    (h : wpAnyG P .any ops Q S ops.size (Array.replicate ops.size false) a w.drew) : (Code.region id ops true).wpIn (Fence.wide.inRound l) n P Q a w := by
  refine wpIn_region_any hm (any_round hno (fun i o ho c hc => ?_) _ _ _ _ (any_of_G _ _ _ _ h))
  have := Array.all_eq_true_iff_forall_mem.1 hd o (Array.mem_of_getElem? ho)
  rw [hc] at this
  cases this
/-- A load that comes up, taken first. -/
theorem take_G (d : Oper) {L : List Oper} (i : Nat) (v : Value) {k : Nat} {listed : Array Bool} {a : Act} {w : World} (hi : L.toArray[i]? = some (nthO d L i))
    (hs : Region.noSelect L.toArray = true) (hf : Region.free md L.toArray listed i = true) (hr : (Region.ready md L.toArray listed).contains i = true)
    (hQ : ∀ c a (o : Option Tmp) v w, Q (.panic c) (a.put o v) w → Q (.panic c) a w) (hw : Region.wanted (nthO d L i) (yielded L.toArray a.tmps) = true)
    (hSi : ∀ (l : Array Bool) (w : World), S (l.setIfInBounds i true) w ↔ S l w) {st : List Nat} (hst : waits md L.toArray st i = true) (hl : (st.all fun s => !listed.getD s true) = true)
    (hS : S listed w) (hy : ∀ w, Yet S st i w → (execOp a.eval (nthO d L i)).run P w = .ok (.value v) w)
    (h : wpAnyG P md L.toArray Q S k (listed.setIfInBounds i true) (a.put (nthO d L i).dst v) w) : wpAnyG P md L.toArray Q S (k + 1) listed a w :=
  G_first hi (Region.noSelect_spec hs) (fun c a w => hQ c a _ _ w) hSi hst k listed a w (fun s hs => by have := List.all_eq_true.1 hl s hs; simpa using this) (Region.free_spec hi hf) (by simpa using hr) (Or.inl ⟨hw, hy⟩) hS h
theorem G_op (d : Oper) {L : List Oper} (i : Nat) {k : Nat} {listed : Array Bool} {a : Act} {w : World} (hi : L.toArray[i]? = some (nthO d L i))
    (h : ∀ K' : Act → World → Prop, Shut (∀ a w, S (listed.setIfInBounds i true) w → wpAnyG P md L.toArray Q S k (listed.setIfInBounds i true) a w → K' a w) → if Region.wanted (nthO d L i) (yielded L.toArray a.tmps) = true then Oper.wp P (nthO d L i) a w K' Q else K' (a.put (nthO d L i).dst undef) w) :
    wpOp P L.toArray Q i (fun a' w' => S (listed.setIfInBounds i true) w' ∧ wpAnyG P md L.toArray Q S k (listed.setIfInBounds i true) a' w') a w :=
  wpOp_step hi (fun K' hK => h K' (fun a w hS hW => hK a w ⟨hS, hW⟩))
/-- One operation alone may come up; two may. -/
theorem one_G (d : Oper) {L : List Oper} (i : Nat) {k : Nat} {listed : Array Bool} {a : Act} {w : World} (hi : L.toArray[i]? = some (nthO d L i)) (hr : Region.ready md L.toArray listed = [i])
    (h : ∀ K' : Act → World → Prop, Shut (∀ a w, S (listed.setIfInBounds i true) w → wpAnyG P md L.toArray Q S k (listed.setIfInBounds i true) a w → K' a w) → if Region.wanted (nthO d L i) (yielded L.toArray a.tmps) = true then Oper.wp P (nthO d L i) a w K' Q else K' (a.put (nthO d L i).dst undef) w) : wpAnyG P md L.toArray Q S (k + 1) listed a w :=
  ⟨fun h0 => (by rw [hr] at h0; cases h0), fun j hj => by
    rw [hr] at hj
    rw [List.mem_singleton.1 hj]
    exact G_op d i hi h⟩
theorem two_G (d : Oper) {L : List Oper} (i j : Nat) {k : Nat} {listed : Array Bool} {a : Act} {w : World} (hi : L.toArray[i]? = some (nthO d L i)) (hj : L.toArray[j]? = some (nthO d L j)) (hr : Region.ready md L.toArray listed = [i, j])
    (h : ∀ K' : Act → World → Prop, Shut (∀ a w, S (listed.setIfInBounds i true) w → wpAnyG P md L.toArray Q S k (listed.setIfInBounds i true) a w → K' a w) → if Region.wanted (nthO d L i) (yielded L.toArray a.tmps) = true then Oper.wp P (nthO d L i) a w K' Q else K' (a.put (nthO d L i).dst undef) w)
    (h' : ∀ K' : Act → World → Prop, Shut (∀ a w, S (listed.setIfInBounds j true) w → wpAnyG P md L.toArray Q S k (listed.setIfInBounds j true) a w → K' a w) → if Region.wanted (nthO d L j) (yielded L.toArray a.tmps) = true then Oper.wp P (nthO d L j) a w K' Q else K' (a.put (nthO d L j).dst undef) w) : wpAnyG P md L.toArray Q S (k + 1) listed a w :=
  ⟨fun h0 => (by rw [hr] at h0; cases h0), fun x hx => by
    rw [hr] at hx
    rcases List.mem_cons.1 hx with rfl | hx
    · exact G_op d _ hi h
    · rw [List.mem_singleton.1 hx]; exact G_op d _ hj h'⟩
theorem done_G {listed : Array Bool} {a : Act} {w : World} (hr : Region.ready md ops listed = []) (h : Q .normal a w) : ∀ k, wpAnyG P md ops Q S k listed a w
  | 0 => ⟨hr, h⟩
  | _ + 1 => ⟨fun _ => h, by rw [hr]; simp⟩
end
end Go.Proofs.YtplnojapnaaakaaGreatDoor

/- apply.Kept. -/
namespace Go.Proofs.YtplnojapnaaakaaGreatDoor
open Go Go.RowKit Go.Lib Go.Shelf
set_option linter.unusedVariables false
attribute [local go_sem] Oper.semAt_some
theorem four_0 (w : World) (o0 o1 o2 o3 : Obj) : ((((w.alloc o0).alloc o1).alloc o2).alloc o3).drew.heap[w.heap.size]? = some o0 := by
  show ((((w.alloc o0).alloc o1).alloc o2).alloc o3).heap[w.heap.size]? = some o0
  rw [Below.heap_alloc _ _ _ (by simp <;> omega), Below.heap_alloc _ _ _ (by simp <;> omega), Below.heap_alloc _ _ _ (by simp)]; exact heap_alloc_new w o0
theorem four_1 (w : World) (o0 o1 o2 o3 : Obj) : ((((w.alloc o0).alloc o1).alloc o2).alloc o3).drew.heap[w.heap.size + 1]? = some o1 := by
  show ((((w.alloc o0).alloc o1).alloc o2).alloc o3).heap[w.heap.size + 1]? = some o1
  rw [Below.heap_alloc _ _ _ (by simp <;> omega), Below.heap_alloc _ _ _ (by simp)]
  have := heap_alloc_new (w.alloc o0) o1
  rwa [World.size_alloc] at this
theorem four_2 (w : World) (o0 o1 o2 o3 : Obj) : ((((w.alloc o0).alloc o1).alloc o2).alloc o3).drew.heap[w.heap.size + 1 + 1]? = some o2 := by
  show ((((w.alloc o0).alloc o1).alloc o2).alloc o3).heap[w.heap.size + 1 + 1]? = some o2
  rw [Below.heap_alloc _ _ _ (by simp)]
  have := heap_alloc_new ((w.alloc o0).alloc o1) o2
  rwa [World.size_alloc, World.size_alloc] at this
theorem four_3 (w : World) (o0 o1 o2 o3 : Obj) : ((((w.alloc o0).alloc o1).alloc o2).alloc o3).drew.heap[w.heap.size + 1 + 1 + 1]? = some o3 := by
  show ((((w.alloc o0).alloc o1).alloc o2).alloc o3).heap[w.heap.size + 1 + 1 + 1]? = some o3
  have := heap_alloc_new (((w.alloc o0).alloc o1).alloc o2) o3
  rwa [World.size_alloc, World.size_alloc, World.size_alloc] at this
theorem four_b (w : World) (o0 o1 o2 o3 : Obj) : Below w.heap.size w ((((w.alloc o0).alloc o1).alloc o2).alloc o3).drew :=
  (((((Below.refl _ _).alloc (Nat.le_refl _) _).alloc (by simp) _).alloc (by simp <;> omega) _).alloc (by simp <;> omega) _).drew
theorem put_le {E F : List Op5} {N T K : Nat} (hE : Rst E N T K) (hF : Rst F N T K) (hT : T ≤ 8388608) (hN : N ≤ 4194304) (hd : DocL E) {k : Nat} (h : ∀ j, j < k → Doc10 (out7 E F j).1 (out7 E F j).2) : put10 E F k ≤ resU (units F) + (cellsL E).length := by
  obtain ⟨m, e, hm⟩ := right_inv hE hF hT hN k
  have hc := far_cells hE hF hT hN hd h
  have h1 := congrArg baseU e
  have h2 := congrArg resU e
  rw [baseU_append, baseU_append, baseU_keeps] at h1
  rw [resU_append, resU_append, resU_keeps] at h2
  unfold far10 at hc
  unfold put10
  by_cases h0 : (it7 E F k).2 = []
  · rw [h0] at h1
    have e1 : baseU (units ([] : List Op5)) = 0 := rfl
    omega
  · have := hm h0
    omega
/-- Behind a round of Kept. -/
theorem ke_post {w A wA : World} {M X Y R S G H cn f t : Nat} {E F : List Op5} {L : List (Int × Int)} {pre : List (Value × Value)} {x : Value × Value} {W' : World} (C : Nat) (h : KeG w X Y R S G H cn f t L wA) (k : KeK w M X Y R S G H) (fr : FrK M A wA)
    (hw : (∃ z : Int, W' = wA.setCell ⟨R, 0, none⟩ (.int .i64 z) ∧ ((far10 E F (pre.length + 1) : Nat) : Int) = z ∧ put10 E F (pre.length + 1) = t ∧ sty10 E F (pre.length + 1) = L) ∨ ∃ z : Int, W' = wA.setCell ⟨S, 0, none⟩ (.int .i64 z) ∧ far10 E F (pre.length + 1) = f ∧ ((put10 E F (pre.length + 1) : Nat) : Int) = z ∧ sty10 E F (pre.length + 1) = L) :
    KeepsFrom M A W' ∧ KS8 M C A W' ∧ KeG w X Y R S G H cn (far10 E F (pre ++ [x]).length) (put10 E F (pre ++ [x]).length) (sty10 E F (pre ++ [x]).length) W' := by
  rw [List.length_append]
  rcases hw with ⟨z, rfl, h1, h2, h3⟩ | ⟨z, rfl, h1, h2, h3⟩
  · obtain ⟨a, b⟩ := h.setR k (far10 E F (pre.length + 1))
    rw [h1] at a b
    have := fr.trans b
    exact ⟨this.from, this.ks, by rw [show ([x] : List (Value × Value)).length = 1 from rfl, h2, h3]; exact a⟩
  · obtain ⟨a, b⟩ := h.setS k (put10 E F (pre.length + 1))
    rw [h2] at a b
    have := fr.trans b
    exact ⟨this.from, this.ks, by rw [show ([x] : List (Value × Value)).length = 1 from rfl, h1, h3]; exact a⟩
set_option maxHeartbeats 8000000 in
set_option maxRecDepth 100000 in
theorem kept10_any {I : List Nat} {a : Nat → Addr} {B1 B2 C1 C2 N T K : Nat} (v u : Value) (E F : List Op5) (w : World) (hI : ∀ i ∈ IxO, i ∈ I) (h11 : 11 ∈ I) (hS : Std I a w) (hE : DlE w B1 B2 v E) (hF : DlE w C1 C2 u F) (h2 : Two10 E F N T K) :
    Calls Tryz.prog 77 #[v, u] w fun r w' => ∃ v1 v2, r = .returned (.tuple #[v1, v2, errOf a (chkE10 E F)]) ∧ (chkE10 E F ≠ 0 → v1 = .slice none 0 0 ∧ v2 = .slice none 0 0) ∧ (chkE10 E F = 0 → OwnZ w' w.heap.size v1 ((kepI ((doneL (cellsL E) (units F)).map Prod.snd) 0).map fun x => .int .i64 x.1) ∧ OwnZ w' w.heap.size v2 ((kepI ((doneL (cellsL E) (units F)).map Prod.snd) 0).map fun x => .int .i64 x.2)) ∧ Below w.heap.size w w' := by
  have cC : Hid (∀ W, Below w.heap.size w W → Calls Tryz.prog 78 #[v, u] W fun e w' => e = .returned (errOf a (chkE10 E F)) ∧ Below W.heap.size W w') := fun W b => check10_any v u E F W (hS.below b) (hI 8 (by decide)) (hI 10 (by decide)) h11 (hE.below b) (hF.below b)
  have cR : Hid (∀ W, Below w.heap.size w W → Calls Tryz.prog 107 #[v] W fun e w' => e = .returned (.int .i64 (sumR E)) ∧ Below W.heap.size W w') := fun W b => result8_any v E W (hE.below b)
  have cD : Hid (∀ W, Below w.heap.size w W → Calls Tryz.prog 108 #[u] W fun e w' => e = .returned (.int .i64 (sumD8 F)) ∧ Below W.heap.size W w') := fun W b => dl8_any u F W (hF.below b)
  have H2 : Hid (Two10 E F N T K) := h2
  have HD : Hid (∀ W, Below w.heap.size w W → DelV W B1 B2 v E ∧ DelV W C1 C2 u F) := fun W b => ⟨hE.d.below b, hF.d.below b⟩
  have HG : Hid ((∀ o ∈ E, opE o = 0) ∧ ∀ o ∈ F, opE o = 0) := ⟨hE.g, hF.g⟩
  have hs1 := hE.sums
  have hs2 := hF.sums
  have hf1 := hE.fits
  unfold Fits8 at hf1
  have HSM : Hid ((0 ≤ sumD8 F ∧ sumD8 F ≤ sumB F) ∧ sumR E ≤ 1099511627776) := ⟨by omega, by omega⟩
  clear hs1 hs2 hf1
  obtain ⟨rE, hrE⟩ : ∃ x, sumR E = x := ⟨_, rfl⟩
  obtain ⟨dF, hdF⟩ : ∃ x, sumD8 F = x := ⟨_, rfl⟩
  rw [hrE] at cR HSM
  rw [hdF] at cD HSM
  have HRD : Hid (sumR E = rE ∧ sumD8 F = dF) := ⟨hrE, hdF⟩
  clear hrE hdF
  obtain ⟨q1, rfl⟩ : ∃ q, v = .pointer (some ⟨q, 0, none⟩) := by obtain ⟨q, _, _, e, _⟩ := hE.d; exact ⟨q, e⟩
  obtain ⟨q2, rfl⟩ : ∃ q, u = .pointer (some ⟨q, 0, none⟩) := by obtain ⟨q, _, _, e, _⟩ := hF.d; exact ⟨q, e⟩
  obtain ⟨er, her⟩ : ∃ er, chkE10 E F = er := ⟨_, rfl⟩
  have HER : Hid (chkE10 E F = er) := her
  rw [her] at cC ⊢
  clear hI h11 hS hE hF h2 her
  refine (callsIn_wide (n := 15)).1 ?_
  refine callsIn_of_wp_marks Tryz.func77 rfl trivial ?_ rfl
  simp only [Tryz.ntmps77, List.size_toArray, List.length_cons, List.length_nil, Nat.reduceAdd, Nat.reduceSub, Array.replicate_succ, Array.replicate_zero, List.push_toArray, List.append_toArray, List.nil_append, List.cons_append]
  rw [wpIn_wide]
  have c1 := cC.out _ (Below.refl _ _)
  go_wp2_with fail
  refine c1.mono ?_; rintro r w1 ⟨rfl, hb1⟩
  clear c1 cC
  cases er with
  | succ e =>
    obtain ⟨t0, y0, hv0⟩ : ∃ t y, errOf a (e + 1) = .iface t y := ⟨_, _, rfl⟩
    have HV : Hid (errOf a (e + 1) = .iface t0 y0) := hv0
    rw [hv0]
    clear hv0 cR cD
    go_wp2
    refine ⟨.tuple #[.slice none 0 0, .slice none 0 0, .iface t0 y0], by simp [results, Tryz.results77, go_sem], _, _, by rw [HV.out], fun _ => ⟨rfl, rfl⟩, fun h => (by cases h), hb1⟩
  | zero =>
    rw [show errOf a 0 = .nilIface from rfl]
    obtain ⟨x1, hd1, xs, hxs, x2, x3, x4⟩ := chk10_edit HG.out.1 HG.out.2 HER.out
    have HX : Hid (DocL E ∧ edit (units F) (cellsL E) = some xs ∧ (xs.length : Int) ≤ 1099511627776) := ⟨hd1, hxs, by omega⟩
    have HBF : Hid (baseU (units F) ≤ (cellsL E).length ∧ (((cellsL E).length : Nat) : Int) ≤ 1099511627776 ∧ ((resU (units F) : Nat) : Int) ≤ 1099511627776) := by
      have wE : ∀ o ∈ E, Wel o := fun o ho => wel_of (HG.out.1 o ho)
      have wF : ∀ o ∈ F, Wel o := fun o ho => wel_of (HG.out.2 o ho)
      have h1 := sumB_units wF
      have h2 := sumR_units wF
      have h3 := doc_len10 wE hd1
      have h4 := HSM.out
      have h5 := HRD.out
      have h6 := H2.out.f.res
      exact ⟨by omega, by omega, by omega⟩
    have c2 := cR.out w1 hb1
    go_wp2_with fail
    refine c2.mono ?_; rintro r w2 ⟨rfl, hb2'⟩
    have hb2 := hb1.trans (hb2'.mono hb1.size)
    have c3 := cD.out w2 hb2
    clear c2 hb2' hb1
    go_wp2_with fail
    refine c3.mono ?_; rintro r w3 ⟨rfl, hb3'⟩
    have hb3 := hb2.trans (hb3'.mono hb2.size)
    clear c3 hb3' hb2
    have hm := HSM.out
    have hrd := HRD.out
    rw [hrd.1] at x3 x4
    obtain ⟨cn, hcn⟩ : ∃ cn : Nat, rE - dF = cn := ⟨(rE - dF).toNat, by omega⟩
    have hcn2 : (cn : Int) ≤ 1099511627776 := by omega
    have HCN : Hid (cn + delU (units F) = (cellsL E).length) := by
      have h1 := sumD_units (E := F) fun o ho => wel_of (HG.out.2 o ho)
      have h2 := doc_len10 (E := E) (fun o ho => wel_of (HG.out.1 o ho)) hd1
      have h3 := HRD.out
      show _ = _
      omega
    obtain ⟨rfl⟩ : rE = cn + dF := by omega
    have hwr : IntKind.i64.wrap ((cn : Int) + dF - dF) = cn := by rw [IntKind.wrap_i64]; omega
    clear x1 hd1 hxs x2 x3 x4 hm hrd hcn
    obtain ⟨MZ, hMZ, hms⟩ : ∃ MZ : Array Value, MZ.size = cn ∧ ∀ W, (Instr.makeSlice 61 (.int .i64 0) (.int .i64 cn)).run Tryz.prog W = .ok (.slice (some ⟨W.heap.size, 0, none⟩) 0 cn) (W.alloc (.cells MZ 3)) := by
      obtain ⟨i, z, hi, hz, hz1, hz2, hz3⟩ := infoZi
      refine ⟨madeCells z.cells (cn * i.size), by rw [size_madeCells, hz1, Nat.mul_one], fun W => ?_⟩
      have := run_make (P := Tryz.prog) W 61 3 i z Tryz.underlying61 hi hz .i64 .i64 0 cn (Int.le_refl _) (by omega) (by rw [hz2]; omega) (by omega)
      simpa using this
    go_upto_region 5 with fail
    go_cut [9, 10] from 26 to 29 (fun x9 x10 wx => ∃ X Y G H, x9 = .pointer (some ⟨X, 0, none⟩) ∧ x10 = .pointer (some ⟨Y, 0, none⟩) ∧ Hid (wx.heap[X]? = some (.cells #[.slice (some ⟨G, 0, none⟩) 0 cn] 61 (0, 0)) ∧ wx.heap[Y]? = some (.cells #[.slice (some ⟨H, 0, none⟩) 0 cn] 61 (0, 0)) ∧ wx.heap[G]? = some (.cells MZ 3 (0, 0)) ∧ wx.heap[H]? = some (.cells MZ 3 (0, 0)) ∧ (G ≠ H ∧ X ≠ Y) ∧ (w3.heap.size ≤ X ∧ w3.heap.size ≤ Y ∧ w3.heap.size ≤ G ∧ w3.heap.size ≤ H) ∧ Below w3.heap.size w3 wx))
    case first =>
      go_region
      all_goals (try go_wp2)
      all_goals go_meet
      all_goals exact ⟨_, _, _, _, rfl, rfl, (by first | with_reducible exact four_0 w3 _ _ _ _ | with_reducible exact four_1 w3 _ _ _ _ | with_reducible exact four_2 w3 _ _ _ _ | with_reducible exact four_3 w3 _ _ _ _), (by first | with_reducible exact four_0 w3 _ _ _ _ | with_reducible exact four_1 w3 _ _ _ _ | with_reducible exact four_2 w3 _ _ _ _ | with_reducible exact four_3 w3 _ _ _ _), (by first | with_reducible exact four_0 w3 _ _ _ _ | with_reducible exact four_1 w3 _ _ _ _ | with_reducible exact four_2 w3 _ _ _ _ | with_reducible exact four_3 w3 _ _ _ _), (by first | with_reducible exact four_0 w3 _ _ _ _ | with_reducible exact four_1 w3 _ _ _ _ | with_reducible exact four_2 w3 _ _ _ _ | with_reducible exact four_3 w3 _ _ _ _), ⟨by omega, by omega⟩, ⟨by omega, by omega, by omega, by omega⟩, four_b w3 _ _ _ _⟩
    case rest =>
      obtain ⟨X, Y, G, H, rfl, rfl, HK⟩ := hcut
      clear hms
      obtain ⟨R, hR⟩ : ∃ R, R = wc.heap.size := ⟨_, rfl⟩
      obtain ⟨S, hSS⟩ : ∃ S, S = wc.heap.size + 1 := ⟨_, rfl⟩
      obtain ⟨W6, hW6⟩ : ∃ W, W = (wc.alloc (.cells #[.int .i64 0] 3)).alloc (.cells #[.int .i64 0] 3) := ⟨_, rfl⟩
      have bc6 : Below wc.heap.size wc W6 := by rw [hW6]; exact ((Below.refl _ _).alloc (Nat.le_refl _) _).alloc (by simp) _
      obtain ⟨kx, ky, kg, kh, kne, kle, kb⟩ := HK.out
      have hbc : Below w.heap.size w wc := hb3.trans (kb.mono hb3.size)
      have hK6 : KeG w X Y R S G H cn 0 0 [] W6 := by
        refine ⟨heap_below bc6 kx, heap_below bc6 ky, ?_, ?_, ⟨MZ, heap_below bc6 kg, hMZ, by rw [List.length_nil, List.take_zero]; rfl⟩, ⟨MZ, heap_below bc6 kh, hMZ, by rw [List.length_nil, List.take_zero]; rfl⟩, Nat.zero_le _, hbc.trans (bc6.mono hbc.size)⟩
        · rw [hW6, hR, Below.heap_alloc _ _ _ (by simp)]; exact heap_alloc_new wc _
        · rw [hW6, hSS]
          have := heap_alloc_new (wc.alloc (.cells #[.int .i64 0] 3)) (.cells #[.int .i64 0] 3)
          rwa [World.size_alloc] at this
      have s6 : W6.heap.size = wc.heap.size + 2 := by rw [hW6]; simp
      have lt : ∀ {j : Nat} {o : Obj}, wc.heap[j]? = some o → j < wc.heap.size := fun h => (Array.getElem?_eq_some_iff.1 h).1
      have hw3 := hb3.size
      have l1 := lt kx
      have l2 := lt ky
      have l3 := lt kg
      have l4 := lt kh
      have HKK : Hid (∀ M, W6.heap.size ≤ M → KeK w M X Y R S G H) := fun M hM => ⟨⟨by omega, by omega⟩, ⟨by omega, by omega⟩, ⟨by omega, by omega⟩, ⟨by omega, by omega⟩, ⟨by omega, by omega⟩, ⟨by omega, by omega⟩, kne.2, by omega, by omega, by omega, by omega, by omega, kne.1⟩
      have c4 := steps7_call _ _ E F W6 (HD.out _ hK6.below).1 (HD.out _ hK6.below).2
      have H6 : Hid (KeG w X Y R S G H cn 0 0 [] W6) := hK6
      clear hK6 bc6 kx ky kg kh kne kle kb hbc lt hw3 l1 l2 l3 l4 s6 HK hb3
      go_upto_region 7 with fail
      rw [← hSS, ← hR, ← hW6]
      clear hSS hR hW6
      go_wp2_with fail
      refine c4.mono ?_; rintro r w4 ⟨x, y, rfl, hx, hy, hb4⟩
      have H4 : Hid (KeG w X Y R S G H cn 0 0 [] w4 ∧ BoxD w4 x B1 B2 E ∧ BoxD w4 y C1 C2 F ∧ KeK w w4.heap.size X Y R S G H ∧ w.heap.size ≤ w4.heap.size) := ⟨H6.out.mono hb4, hx, hy, HKK.out _ hb4.size, by have := H6.out.below.size; have := hb4.size; omega⟩
      clear c4 hx hy hb4 H6 HKK
      -- THE RANGE
      go_wp2_with fail
      refine (wpIn_wide (n := 15)).1 ?_
      refine wpIn_rangeFunc_GS (encs := encS) rfl (by decide) (gf := 67) (lb := #[.pointer (some ⟨x, 0, none⟩), .pointer (some ⟨y, 0, none⟩)]) rfl trivial (enters_of Tryz.func67 (by kernel_rfl) rfl)
        (steps8_seq E F w4 x y B1 B2 C1 C2 H4.out.2.1 H4.out.2.2.1 H2.out.e H2.out.f (by have := H2.out.t; omega) (by have := H2.out.k; omega) (by have := H2.out.n; omega) 14 (by decide)) (Below.refl _ _) (fun _ => rfl) (fun pre x A A' h k => h.bk k.seven) (fun C pre x A A' B B' _ k1 h k2 => KS8.bk k1 h k2)
        (fun C pre A => KeG w X Y R S G H cn (far10 E F pre.length) (put10 E F pre.length) (sty10 E F pre.length) A) (fun _ _ _ _ => False)
        (fun C s A A' _ h k => h.tr H4.out.2.2.2.1 H4.out.2.2.2.2 k) (fun _ _ _ _ _ _ h _ => h)
        (fun W b => H4.out.1.mono b)
        (fun (_ : List (Value × Value)) (z : Value × Value) (a' : Act) (A : World) => a' = { tmps := #[.pointer (some ⟨q1, 0, none⟩), .pointer (some ⟨q2, 0, none⟩), undef, undef, .slice none 0 0, .slice none 0 0, .nilIface, .nilIface, .int .i64 cn, .pointer (some ⟨X, 0, none⟩), .pointer (some ⟨Y, 0, none⟩), .pointer (some ⟨R, 0, none⟩), .pointer (some ⟨S, 0, none⟩), z.1, z.2, .pointer (some ⟨q1, 0, none⟩), .pointer (some ⟨q2, 0, none⟩), .nilIface, .nilIface, .bool false, undef, .pointer (some ⟨q1, 0, none⟩), .int .i64 ((cn : Int) + dF), .pointer (some ⟨q2, 0, none⟩), .int .i64 dF, .int .i64 cn, u26, u27, u28, u29, .pointer (some ⟨q1, 0, none⟩), .pointer (some ⟨q2, 0, none⟩), .func (.func 67) #[] #[.pointer (some ⟨x, 0, none⟩), .pointer (some ⟨y, 0, none⟩)], z.1, z.2, undef, undef, undef, undef, undef, undef, undef, undef, undef, undef, undef, undef, undef, undef, undef, undef, undef, undef, undef, undef, undef, undef, undef, undef, undef, undef, undef, undef, undef, undef, undef, undef, undef, undef], defers := [] }) (fun _ _ _ _ _ h _ => h) ?assign ?body ?done ?stop
      case assign =>
        intro l2 C pre z W4 K _ _ hK
        gi_wp2
        exact hK _ _ (Below.refl _ _) rfl
      case stop => intro D C c pre W _ _ _ h; exact h.elim
      case body =>
        rintro l2 C pre z a' A hl1 hl2 hC2 hCs hrec hin hG rfl
        obtain ⟨g0, g1, g2, g3⟩ := hG
        obtain ⟨pv, qv⟩ := z
        have hT8 : T ≤ 8388608 := by have := H2.out.t; omega
        have hN8 : N ≤ 4194304 := by have := H2.out.n; omega
        have hdoc := out_doc10 H2.out.e H2.out.f hT8 hN8 HX.out.1 HX.out.2.1 g1 g0
        have hdj : ∀ j, j < pre.length + 1 → Doc10 (out7 E F j).1 (out7 E F j).2 := fun j hj => by
          rcases Nat.lt_or_ge j pre.length with h | h
          · exact out_doc10 H2.out.e H2.out.f hT8 hN8 HX.out.1 HX.out.2.1 (fun i hi => g1 i (by omega)) (g1 j h)
          · obtain rfl : j = pre.length := by omega
            exact hdoc
        obtain ⟨r1, r2⟩ := it_rst H2.out.e H2.out.f hT8 hN8 pre.length
        obtain ⟨o1, o2⟩ := out_good r1 r2 hT8 hN8
        have hroom := sty_room H2.out.e H2.out.f hT8 hN8 HX.out.1 HBF.out.1 hdj
        have hput := put_le H2.out.e H2.out.f hT8 hN8 HX.out.1 hdj
        have hfar := far_cells H2.out.e H2.out.f hT8 hN8 HX.out.1 hdj
        have hcell := HBF.out.2
        have HIN : Hid (KeG w X Y R S G H cn (far10 E F pre.length) (put10 E F pre.length) (sty10 E F pre.length) A) := hin
        have hKK := H4.out.2.2.2.1
        have HKK : Hid (KeK w w4.heap.size X Y R S G H) := hKK
        obtain ⟨f, hf⟩ : ∃ f, far10 E F pre.length = f := ⟨_, rfl⟩
        obtain ⟨t, ht⟩ : ∃ f, put10 E F pre.length = f := ⟨_, rfl⟩
        obtain ⟨L, hL⟩ : ∃ f, sty10 E F pre.length = f := ⟨_, rfl⟩
        rw [hf, ht, hL] at HIN
        have cR : A.cell? ⟨R, 0, none⟩ = some (.int .i64 (f : Nat)) := by rw [cell_of_heap HIN.out.r]; rfl
        have cS : A.cell? ⟨S, 0, none⟩ = some (.int .i64 (t : Nat)) := by rw [cell_of_heap HIN.out.s]; rfl
        have HCC : Hid (∀ W', Below A.heap.size A W' → (W'.cell? ⟨R, 0, none⟩ = some (.int .i64 (f : Nat)) ∧ W'.cell? ⟨S, 0, none⟩ = some (.int .i64 (t : Nat))) ∧ W'.frozen? ⟨R, 0, none⟩ = false ∧ W'.frozen? ⟨S, 0, none⟩ = false) := fun W' hb => ⟨⟨(hb.cell (lt_of_cell cR)).trans cR, (hb.cell (lt_of_cell cS)).trans cS⟩, frozen_of_heap (heap_below hb HIN.out.r) 0, frozen_of_heap (heap_below hb HIN.out.s) 0⟩
        have bd : Below A.heap.size A A.drew := (Below.refl _ _).drew
        have md := HCC.out _ bd
        rcases hdoc with ⟨e1, q, e2, kq⟩ | ⟨p, q, e1, e2, kp, kq⟩
        · -- an insert: it stands behind
          rw [e1] at g2
          rw [e2] at g3
          obtain rfl : pv = .nilIface := g2
          obtain ⟨sq, rfl, _⟩ := g3
          obtain ⟨gq, _⟩ := o2 q e2
          obtain ⟨y1, y2, y3⟩ := sty_ins e2 (wel_of gq) kq
          rw [hf] at y1
          rw [ht] at y2
          rw [hL] at y3
          have hlp := len5_pos gq
          have HY : Hid (far10 E F (pre.length + 1) = f ∧ ((put10 E F (pre.length + 1) : Nat) : Int) = t + len5 q ∧ sty10 E F (pre.length + 1) = L) := ⟨y1, y2, y3⟩
          have hpl : t + len5 q ≤ 2199023255552 := by rw [← y2]; omega
          clear y1 y2 y3 hin g0 g1 hdj r1 r2 o1 o2 hroom hput hfar hcell hrec e1 e2 hf ht hL cR cS hKK gq
          rcases kq with hk | hk
          · have hl := len5_1 hk
            rw [pieceQ_1 hk]
            have a0 := asDel_1
            have a1 := asRet_1
            obtain ⟨LL, hLL⟩ : ∃ x, len5 q = x := ⟨_, rfl⟩
            rw [hLL] at hl hlp hpl HY
            rw [← hl]
            have hm : ∀ W : World, (method 359 183 (.agg #[sq, .string q.t, .int .i64 LL]) "Len").run Tryz.prog W = .ok (198, .agg #[sq, .string q.t, .int .i64 LL]) W := fun _ => by kernel_rfl
            have cLen : Hid (∀ W', Below A.heap.size A W' → Calls Tryz.prog 198 #[.agg #[sq, .string q.t, .int .i64 LL]] W' fun r w' => r = .returned (.int .i64 LL) ∧ Below A.heap.size A w') := fun W' hW => from_below hW (ilen_any sq q.t LL W')
            have hz : IntKind.i64.wrap ((t : Int) + LL) = (t : Int) + LL := by rw [IntKind.wrap_i64]; omega
            clear hk hl hLL
            gi_wp2
            gi_region_with (refine ⟨trivial, (CallsIn.inRound l2 (callsIn_wide.2 (cLen.out _ bd))).mono ?_⟩; rintro r wA ⟨rfl, bA⟩; have mA := HCC.out wA bA)
            all_goals (gi_wp2)
            all_goals exact ke_post (pre := pre) (x := (_, _)) C (HIN.out.mono bA) HKK.out (FrK.of_below bA) (.inr ⟨_, rfl, HY.out.1, HY.out.2.1, HY.out.2.2⟩)
          · have hl := len5_2 hk
            rw [pieceQ_2 hk]
            have a0 := asDel_2
            have a1 := asRet_2
            obtain ⟨LL, hLL⟩ : ∃ x, len5 q = x := ⟨_, rfl⟩
            rw [hLL] at hl hlp hpl HY
            obtain ⟨V, hV⟩ : ∃ V, valP q.v = V := ⟨_, rfl⟩
            rw [hV]
            have hm : ∀ W : World, (method 359 187 (.agg #[sq, .string q.t, V]) "Len").run Tryz.prog W = .ok (200, .agg #[sq, .string q.t, V]) W := fun _ => by kernel_rfl
            have cLen : Hid (∀ W', Below A.heap.size A W' → Calls Tryz.prog 200 #[.agg #[sq, .string q.t, V]] W' fun r w' => r = .returned (.int .i64 LL) ∧ Below A.heap.size A w') := fun W' hW => from_below hW (by have := elen_any V sq q.t W'; rw [← hl] at this; exact this)
            have hz : IntKind.i64.wrap ((t : Int) + LL) = (t : Int) + LL := by rw [IntKind.wrap_i64]; omega
            clear hk hl hLL
            gi_wp2
            gi_region_with (refine ⟨trivial, (CallsIn.inRound l2 (callsIn_wide.2 (cLen.out _ bd))).mono ?_⟩; rintro r wA ⟨rfl, bA⟩; have mA := HCC.out wA bA)
            all_goals (gi_wp2)
            all_goals exact ke_post (pre := pre) (x := (_, _)) C (HIN.out.mono bA) HKK.out (FrK.of_below bA) (.inr ⟨_, rfl, HY.out.1, HY.out.2.1, HY.out.2.2⟩)
        · -- a piece of the document, kept or gone
          rw [e1] at g2
          rw [e2] at g3
          obtain ⟨sp, rfl, _⟩ := g2
          obtain ⟨sq, rfl, _⟩ := g3
          obtain ⟨gp, _⟩ := o1 p e1
          obtain ⟨gq, _⟩ := o2 q e2
          have hlen := out_len10 H2.out.e H2.out.f hT8 hN8 pre.length (show out7 E F pre.length = (some p, some q) from Prod.ext e1 e2)
          have hlp := len5_pos gq
          rcases kq with hkq | hkq
          · -- kept
            obtain ⟨y1, y2, y3⟩ := sty_ret e2 (wel_of gq) hkq
            rw [hf] at y1 y3
            rw [ht] at y2 y3
            rw [hL] at y3
            obtain ⟨m, hm0⟩ : ∃ m : Nat, len5 q = m := ⟨(len5 q).toNat, by omega⟩
            rw [hm0] at y1 y2 y3 hlen
            rw [Int.toNat_natCast] at y3
            have hll : L.length + m ≤ cn := by
              have h1 := hroom
              rw [y3, List.length_append] at h1
              have h2 := kepU_count (List.replicate m (U6.keep [])) f t
              rw [delU_keeps, baseU_keeps] at h2
              have h3 := HCN.out
              omega
            have HY : Hid (far10 E F (pre.length + 1) = f + m ∧ put10 E F (pre.length + 1) = t + m ∧ sty10 E F (pre.length + 1) = L ++ kepU (List.replicate m (.keep [])) f t) := ⟨by omega, by omega, y3⟩
            have hfm : f + m ≤ 2199023255552 := by omega
            have htm : t + m ≤ 2199023255552 := by omega
            clear y1 y2 y3 hin g0 g1 hdj r1 r2 o1 o2 hroom hput hfar hcell hrec e1 e2 hf ht hL cR cS hKK gq gp hm0 hlp
            rw [pieceQ_3 hkq]
            have a0 := asDel_3
            have a1 := asRet_3
            clear hkq
            rcases kp with hk | hk
            · have hl := len5_1 hk
              rw [hlen] at hl
              rw [pieceQ_1 hk]
              rw [← hl]
              have hm : ∀ W : World, (method 359 183 (.agg #[sp, .string p.t, .int .i64 (m : Nat)]) "Len").run Tryz.prog W = .ok (198, .agg #[sp, .string p.t, .int .i64 (m : Nat)]) W := fun _ => by kernel_rfl
              have cLen : Hid (∀ W', Below A.heap.size A W' → Calls Tryz.prog 198 #[.agg #[sp, .string p.t, .int .i64 (m : Nat)]] W' fun r w' => r = .returned (.int .i64 (m : Nat)) ∧ Below A.heap.size A w') := fun W' hW => from_below hW (ilen_any sp p.t (m : Nat) W')
              clear hk hl hlen
              gi_wp2
              refine ⟨trivial, (CallsIn.inRound l2 (callsIn_wide.2 (cLen.out A (Below.refl _ _)))).mono ?_⟩
              rintro r wA ⟨rfl, bA⟩
              have HKA : Hid (KeG w X Y R S G H cn f t L wA ∧ FrK w4.heap.size A wA) := ⟨HIN.out.mono bA, FrK.of_below bA⟩
              clear cLen bA hm md bd HCC HIN
              gi_wp2
              gi_loopw [52] (fun i wr => ∃ (j : Nat), j ≤ m ∧ i = .int .i64 j ∧ Hid (KeG w X Y R S G H cn (f + j) (t + j) (L ++ kepU (List.replicate j (.keep [])) f t) wr ∧ FrK w4.heap.size A wr)) (fun i _ => m - (RowKit.intOf i).toNat)
              case atStart => exact ⟨0, Nat.zero_le _, rfl, by show KeG _ _ _ _ _ _ _ _ _ _ (L ++ []) _ ∧ _; rw [List.append_nil]; exact HKA.out⟩
              case round =>
                clear HKA
                obtain ⟨j, hj, rfl, HJ⟩ := hrel
                by_cases hlj : j < m
                · have hljI : (j : Int) < m := by omega
                  obtain ⟨ff, hff⟩ : ∃ x, f + j = x := ⟨_, rfl⟩
                  obtain ⟨tt, htt⟩ : ∃ x, t + j = x := ⟨_, rfl⟩
                  obtain ⟨L2, hL2⟩ : ∃ x, L ++ kepU (List.replicate j (U6.keep [])) f t = x := ⟨_, rfl⟩
                  obtain ⟨nn, hnn⟩ : ∃ x, L2.length = x := ⟨_, rfl⟩
                  have hHJ := HJ.out
                  rw [hff, htt, hL2] at hHJ
                  have hn2 : nn < cn := by
                    have h2 := kepU_count (List.replicate j (U6.keep [])) f t
                    rw [delU_keeps, baseU_keeps] at h2
                    rw [← hnn, ← hL2, List.length_append]
                    omega
                  have HX2 : Hid (f + (j + 1) = ff + 1 ∧ t + (j + 1) = tt + 1 ∧ L ++ kepU (List.replicate (j + 1) (U6.keep [])) f t = L2 ++ [((ff : Int), (tt : Int))]) := ⟨by omega, by omega, by rw [kepU_keep1, ← List.append_assoc, hL2, ← hff, ← htt, Int.natCast_add, Int.natCast_add]⟩
                  have hff2 : ff ≤ 2199023255552 := by omega
                  have htt2 : tt ≤ 2199023255552 := by omega
                  have HH : Hid (KeG w X Y R S G H cn ff tt L2 wr ∧ FrK w4.heap.size A wr ∧ L2.length = nn ∧ nn < cn) := ⟨hHJ.1, hHJ.2, hnn, hn2⟩
                  have HQ5 : Hid (Q5 X Y R S G H cn nn ff tt wr.drew) := (hHJ.1.q5 hnn).drew
                  clear hHJ HJ hff htt hL2 hnn
                  gi_wp2
                  refine region_round_G (S := (fun l W' => l.getD 8 true = false → l.getD 9 true = false → Q5 X Y R S G H cn nn ff tt W')) (by kernel_rfl) (by kernel_rfl) (fun ⟨_, _, h⟩ => h) ?_
                  have hSi : ∀ i : Nat, i ≠ 8 → i ≠ 9 → ∀ (l : Array Bool) (w : World), ((fun l W' => l.getD 8 true = false → l.getD 9 true = false → Q5 X Y R S G H cn nn ff tt W') (l.setIfInBounds i true) w) ↔ ((fun l W' => l.getD 8 true = false → l.getD 9 true = false → Q5 X Y R S G H cn nn ff tt W') l w) := fun i h8 h9 l w => by
                    have e8 := getD_set_ne (listed := l) true h8
                    have e9 := getD_set_ne (listed := l) true h9
                    simp only [e8, e9]
                  refine take_G dOp 0 (.slice (some ⟨G, 0, none⟩) nn cn) (by kernel_rfl) (by kernel_rfl) (by kernel_rfl) (by kernel_rfl) (fun _ _ _ _ _ h => h) (by rfl) (hSi 0 (by decide) (by decide)) (st := [8, 9]) (by kernel_rfl) (by kernel_rfl) (fun _ _ => HQ5.out) (fun w' hy => ?_) ?_
                  · obtain ⟨l, _, h2, h3⟩ := hy
                    have hc := (h3 (h2 8 (by decide)) (h2 9 (by decide))).cells.1
                    clear h2 h3
                    simp only [nthO]
                    go_simp
                  simp only [nthO, Act.put, List.setIfInBounds_toArray, List.set_cons_zero, List.set_cons_succ]
                  refine take_G dOp 1 (.int .i64 (ff : Nat)) (by kernel_rfl) (by kernel_rfl) (by kernel_rfl) (by kernel_rfl) (fun _ _ _ _ _ h => h) (by rfl) (hSi 1 (by decide) (by decide)) (st := [8, 9]) (by kernel_rfl) (by kernel_rfl) (fun _ _ => HQ5.out) (fun w' hy => ?_) ?_
                  · obtain ⟨l, _, h2, h3⟩ := hy
                    have hc := (h3 (h2 8 (by decide)) (h2 9 (by decide))).cells.2.2.1
                    clear h2 h3
                    simp only [nthO]
                    go_simp
                  simp only [nthO, Act.put, List.setIfInBounds_toArray, List.set_cons_zero, List.set_cons_succ]
                  refine take_G dOp 4 (.slice (some ⟨H, 0, none⟩) nn cn) (by kernel_rfl) (by kernel_rfl) (by kernel_rfl) (by kernel_rfl) (fun _ _ _ _ _ h => h) (by rfl) (hSi 4 (by decide) (by decide)) (st := [7, 8, 9]) (by kernel_rfl) (by kernel_rfl) (fun _ _ => HQ5.out) (fun w' hy => ?_) ?_
                  · obtain ⟨l, _, h2, h3⟩ := hy
                    have hc := (h3 (h2 8 (by decide)) (h2 9 (by decide))).cells.2.1
                    clear h2 h3
                    simp only [nthO]
                    go_simp
                  simp only [nthO, Act.put, List.setIfInBounds_toArray, List.set_cons_zero, List.set_cons_succ]
                  refine take_G dOp 5 (.int .i64 (tt : Nat)) (by kernel_rfl) (by kernel_rfl) (by kernel_rfl) (by kernel_rfl) (fun _ _ _ _ _ h => h) (by rfl) (hSi 5 (by decide) (by decide)) (st := [6, 7, 8, 9]) (by kernel_rfl) (by kernel_rfl) (fun _ _ => HQ5.out) (fun w' hy => ?_) ?_
                  · obtain ⟨l, _, h2, h3⟩ := hy
                    have hc := (h3 (h2 8 (by decide)) (h2 9 (by decide))).cells.2.2.2
                    clear h2 h3
                    simp only [nthO]
                    go_simp
                  simp only [nthO, Act.put, List.setIfInBounds_toArray, List.set_cons_zero, List.set_cons_succ]
                  have hGlt : G < wr.heap.size := by obtain ⟨gc, g1, _⟩ := HH.out.1.g; exact (Array.getElem?_eq_some_iff.1 g1).1
                  obtain ⟨i0, z0', hi0, hz0, hz10, hz20, hz30⟩ := infoZi
                  refine two_G dOp 2 6 (by kernel_rfl) (by kernel_rfl) (by kernel_rfl) ?_ ?_
                  · intro K hK
                    simp only [nthO]
                    refine step_box10 rfl 61 (.tmp 55) rfl (.int .i64 (ff : Nat)) rfl (run_boxn10 (wr.drew) (ff : Nat) (wr.heap.size) (by first | rfl | exact kz2 _ _ | exact kz3 _ _ _ _ _)) ?_
                    refine hK.out _ ((wr.drew).alloc (.cells #[.int .i64 (ff : Nat)] 3)) (fun _ _ => (HQ5.out).alloc _) ?_
                    clear hK K
                    try simp only [Act.put, List.setIfInBounds_toArray, List.set_cons_zero, List.set_cons_succ]
                    refine two_G dOp 3 6 (by kernel_rfl) (by kernel_rfl) (by kernel_rfl) ?_ ?_
                    · intro K hK
                      simp only [nthO]
                      have hbx : ((wr.drew).alloc (.cells #[.int .i64 (ff : Nat)] 3)).heap[wr.heap.size]? = some (.cells #[.int .i64 (ff : Nat)] 3 (0, 0)) := (by first | exact kx1 _ _ | exact kx4 _ _ _ | exact kx3 _ _ _ | exact kx2 _ _ _ _ _ _ | exact kx5 _ _ _ hGlt _ _ | exact kx6 _ _ _ hGlt _ _)
                      refine step_room10 ?_ (.tmp 54) (.tmp 56) 61 ?_ 3 i0 Tryz.underlying61 hi0 hz10 G nn cn ?_ (wr.heap.size) (.int .i64 (ff : Nat)) ?_ ?_ rfl HH.out.2.2.2 ?_ ?_
                      · rfl
                      · rfl
                      · rfl
                      · rfl
                      · exact news10 _ _ hbx
                      · exact spare10 (((HQ5.out).alloc (.cells #[.int .i64 (ff : Nat)] 3))).g HH.out.2.2.2 (.int .i64 (ff : Nat))
                      refine hK.out _ (((wr.drew).alloc (.cells #[.int .i64 (ff : Nat)] 3)).setCell ⟨G, nn, none⟩ (.int .i64 (ff : Nat))) (fun _ _ => (((HQ5.out).alloc (.cells #[.int .i64 (ff : Nat)] 3))).setG HKK.out _ _) ?_
                      clear hK K hbx
                      try simp only [Act.put, List.setIfInBounds_toArray, List.set_cons_zero, List.set_cons_succ]
                      refine one_G dOp 6 (by kernel_rfl) (by kernel_rfl) ?_
                      intro K hK
                      simp only [nthO]
                      refine step_box10 rfl 61 (.tmp 59) rfl (.int .i64 (tt : Nat)) rfl (run_boxn10 (((wr.drew).alloc (.cells #[.int .i64 (ff : Nat)] 3)).setCell ⟨G, nn, none⟩ (.int .i64 (ff : Nat))) (tt : Nat) (wr.heap.size + 1) (by first | rfl | exact kz2 _ _ | exact kz3 _ _ _ _ _)) ?_
                      refine hK.out _ ((((wr.drew).alloc (.cells #[.int .i64 (ff : Nat)] 3)).setCell ⟨G, nn, none⟩ (.int .i64 (ff : Nat))).alloc (.cells #[.int .i64 (tt : Nat)] 3)) (fun _ _ => (((((HQ5.out).alloc (.cells #[.int .i64 (ff : Nat)] 3))).setG HKK.out nn (.int .i64 (ff : Nat)))).alloc _) ?_
                      clear hK K
                      try simp only [Act.put, List.setIfInBounds_toArray, List.set_cons_zero, List.set_cons_succ]
                      refine one_G dOp 7 (by kernel_rfl) (by kernel_rfl) ?_
                      intro K hK
                      simp only [nthO]
                      have hbx : ((((wr.drew).alloc (.cells #[.int .i64 (ff : Nat)] 3)).setCell ⟨G, nn, none⟩ (.int .i64 (ff : Nat))).alloc (.cells #[.int .i64 (tt : Nat)] 3)).heap[wr.heap.size + 1]? = some (.cells #[.int .i64 (tt : Nat)] 3 (0, 0)) := (by first | exact kx1 _ _ | exact kx4 _ _ _ | exact kx3 _ _ _ | exact kx2 _ _ _ _ _ _ | exact kx5 _ _ _ hGlt _ _ | exact kx6 _ _ _ hGlt _ _)
                      refine step_room10 ?_ (.tmp 58) (.tmp 60) 61 ?_ 3 i0 Tryz.underlying61 hi0 hz10 H nn cn ?_ (wr.heap.size + 1) (.int .i64 (tt : Nat)) ?_ ?_ rfl HH.out.2.2.2 ?_ ?_
                      · rfl
                      · rfl
                      · rfl
                      · rfl
                      · exact news10 _ _ hbx
                      · exact spare10 (((((((HQ5.out).alloc (.cells #[.int .i64 (ff : Nat)] 3))).setG HKK.out nn (.int .i64 (ff : Nat)))).alloc (.cells #[.int .i64 (tt : Nat)] 3))).h HH.out.2.2.2 (.int .i64 (tt : Nat))
                      refine hK.out _ (((((wr.drew).alloc (.cells #[.int .i64 (ff : Nat)] 3)).setCell ⟨G, nn, none⟩ (.int .i64 (ff : Nat))).alloc (.cells #[.int .i64 (tt : Nat)] 3)).setCell ⟨H, nn, none⟩ (.int .i64 (tt : Nat))) (fun _ _ => (((((((HQ5.out).alloc (.cells #[.int .i64 (ff : Nat)] 3))).setG HKK.out nn (.int .i64 (ff : Nat)))).alloc (.cells #[.int .i64 (tt : Nat)] 3))).setH HKK.out _ _) ?_
                      clear hK K hbx
                      try simp only [Act.put, List.setIfInBounds_toArray, List.set_cons_zero, List.set_cons_succ]
                      obtain ⟨W7, hW7⟩ : ∃ W, W = ((((wr.drew).alloc (.cells #[.int .i64 (ff : Nat)] 3)).setCell ⟨G, nn, none⟩ (.int .i64 (ff : Nat))).alloc (.cells #[.int .i64 (tt : Nat)] 3)).setCell ⟨H, nn, none⟩ (.int .i64 (tt : Nat)) := ⟨_, rfl⟩
                      have HQ7 : Hid (Q5 X Y R S G H cn nn ff tt W7) := by rw [hW7]; exact (((((((((HQ5.out).alloc (.cells #[.int .i64 (ff : Nat)] 3))).setG HKK.out nn (.int .i64 (ff : Nat)))).alloc (.cells #[.int .i64 (tt : Nat)] 3))).setH HKK.out nn (.int .i64 (tt : Nat))))
                      rw [← hW7]
                      have HW7 := Hid.mk10 hW7
                      clear hW7
                      have cx := HQ7.out.cells.1
                      have fx := HQ7.out.fx
                      refine one_G dOp 8 (by kernel_rfl) (by kernel_rfl) ?_
                      intro K hK
                      simp only [nthO]
                      go_simp
                      refine hK.out _ ((W7).setCell ⟨X, 0, none⟩ (.slice (some ⟨G, 0, none⟩) (nn + 1) cn)) (fun h8 _ => absurd h8 (by decide)) ?_
                      clear hK K cx fx
                      try simp only [Act.put, List.setIfInBounds_toArray, List.set_cons_zero, List.set_cons_succ]
                      obtain ⟨cy, fy⟩ := HQ7.out.fy HKK.out (.slice (some ⟨G, 0, none⟩) (nn + 1) cn)
                      refine one_G dOp 9 (by kernel_rfl) (by kernel_rfl) ?_
                      intro K hK
                      simp only [nthO]
                      go_simp
                      refine hK.out _ (((W7).setCell ⟨X, 0, none⟩ (.slice (some ⟨G, 0, none⟩) (nn + 1) cn)).setCell ⟨Y, 0, none⟩ (.slice (some ⟨H, 0, none⟩) (nn + 1) cn)) (fun h8 _ => absurd h8 (by decide)) ?_
                      clear hK K cy fy
                      try simp only [Act.put, List.setIfInBounds_toArray, List.set_cons_zero, List.set_cons_succ]
                      refine done_G (by kernel_rfl) ?_ _
                      obtain ⟨Wf, hWf⟩ : ∃ W, W = ((W7).setCell ⟨X, 0, none⟩ (.slice (some ⟨G, 0, none⟩) (nn + 1) cn)).setCell ⟨Y, 0, none⟩ (.slice (some ⟨H, 0, none⟩) (nn + 1) cn) := ⟨_, rfl⟩
                      have HL : Hid (KeG w X Y R S G H cn ff tt (L2 ++ [((ff : Int), (tt : Int))]) Wf ∧ FrK w4.heap.size A Wf) := by rw [hWf, HW7.out]; rw [alloc_set10 _ G nn _ _ (by rw [World.size_alloc]; exact Nat.lt_succ_of_lt hGlt)]; exact KeG.leaf HH.out.1 HH.out.2.1 HKK.out HH.out.2.2.1 HH.out.2.2.2 _ _
                      rw [← hWf]
                      clear hWf HQ7 HW7
                      have cR : Wf.cell? ⟨R, 0, none⟩ = some (.int .i64 (ff : Nat)) := by rw [cell_of_heap HL.out.1.r]; rfl
                      have cS : Wf.cell? ⟨S, 0, none⟩ = some (.int .i64 (tt : Nat)) := by rw [cell_of_heap HL.out.1.s]; rfl
                      have fR := frozen_of_heap HL.out.1.r 0
                      have fS := frozen_of_heap HL.out.1.s 0
                      have nRS := HKK.out.rs
                      have nSR := Ne.symm HKK.out.rs
                      gi_wp2
                      go_roundw
                      case rel => exact ⟨j + 1, by omega, by go_num, by show KeG _ _ _ _ _ _ _ _ _ _ _ _ ∧ _; rw [HX2.out.1, HX2.out.2.1, HX2.out.2.2]; exact HL.out.1.next HL.out.2 HKK.out⟩
                      case measure => simp [RowKit.intOf]; omega
                    · intro K hK
                      simp only [nthO]
                      refine step_box10 rfl 61 (.tmp 59) rfl (.int .i64 (tt : Nat)) rfl (run_boxn10 ((wr.drew).alloc (.cells #[.int .i64 (ff : Nat)] 3)) (tt : Nat) (wr.heap.size + 1) (by first | rfl | exact kz2 _ _ | exact kz3 _ _ _ _ _)) ?_
                      refine hK.out _ (((wr.drew).alloc (.cells #[.int .i64 (ff : Nat)] 3)).alloc (.cells #[.int .i64 (tt : Nat)] 3)) (fun _ _ => (((HQ5.out).alloc (.cells #[.int .i64 (ff : Nat)] 3))).alloc _) ?_
                      clear hK K
                      try simp only [Act.put, List.setIfInBounds_toArray, List.set_cons_zero, List.set_cons_succ]
                      refine one_G dOp 3 (by kernel_rfl) (by kernel_rfl) ?_
                      intro K hK
                      simp only [nthO]
                      have hbx : (((wr.drew).alloc (.cells #[.int .i64 (ff : Nat)] 3)).alloc (.cells #[.int .i64 (tt : Nat)] 3)).heap[wr.heap.size]? = some (.cells #[.int .i64 (ff : Nat)] 3 (0, 0)) := (by first | exact kx1 _ _ | exact kx4 _ _ _ | exact kx3 _ _ _ | exact kx2 _ _ _ _ _ _ | exact kx5 _ _ _ hGlt _ _ | exact kx6 _ _ _ hGlt _ _)
                      refine step_room10 ?_ (.tmp 54) (.tmp 56) 61 ?_ 3 i0 Tryz.underlying61 hi0 hz10 G nn cn ?_ (wr.heap.size) (.int .i64 (ff : Nat)) ?_ ?_ rfl HH.out.2.2.2 ?_ ?_
                      · rfl
                      · rfl
                      · rfl
                      · rfl
                      · exact news10 _ _ hbx
                      · exact spare10 (((((HQ5.out).alloc (.cells #[.int .i64 (ff : Nat)] 3))).alloc (.cells #[.int .i64 (tt : Nat)] 3))).g HH.out.2.2.2 (.int .i64 (ff : Nat))
                      refine hK.out _ ((((wr.drew).alloc (.cells #[.int .i64 (ff : Nat)] 3)).alloc (.cells #[.int .i64 (tt : Nat)] 3)).setCell ⟨G, nn, none⟩ (.int .i64 (ff : Nat))) (fun _ _ => (((((HQ5.out).alloc (.cells #[.int .i64 (ff : Nat)] 3))).alloc (.cells #[.int .i64 (tt : Nat)] 3))).setG HKK.out _ _) ?_
                      clear hK K hbx
                      try simp only [Act.put, List.setIfInBounds_toArray, List.set_cons_zero, List.set_cons_succ]
                      refine one_G dOp 7 (by kernel_rfl) (by kernel_rfl) ?_
                      intro K hK
                      simp only [nthO]
                      have hbx : ((((wr.drew).alloc (.cells #[.int .i64 (ff : Nat)] 3)).alloc (.cells #[.int .i64 (tt : Nat)] 3)).setCell ⟨G, nn, none⟩ (.int .i64 (ff : Nat))).heap[wr.heap.size + 1]? = some (.cells #[.int .i64 (tt : Nat)] 3 (0, 0)) := (by first | exact kx1 _ _ | exact kx4 _ _ _ | exact kx3 _ _ _ | exact kx2 _ _ _ _ _ _ | exact kx5 _ _ _ hGlt _ _ | exact kx6 _ _ _ hGlt _ _)
                      refine step_room10 ?_ (.tmp 58) (.tmp 60) 61 ?_ 3 i0 Tryz.underlying61 hi0 hz10 H nn cn ?_ (wr.heap.size + 1) (.int .i64 (tt : Nat)) ?_ ?_ rfl HH.out.2.2.2 ?_ ?_
                      · rfl
                      · rfl
                      · rfl
                      · rfl
                      · exact news10 _ _ hbx
                      · exact spare10 (((((((HQ5.out).alloc (.cells #[.int .i64 (ff : Nat)] 3))).alloc (.cells #[.int .i64 (tt : Nat)] 3))).setG HKK.out nn (.int .i64 (ff : Nat)))).h HH.out.2.2.2 (.int .i64 (tt : Nat))
                      refine hK.out _ (((((wr.drew).alloc (.cells #[.int .i64 (ff : Nat)] 3)).alloc (.cells #[.int .i64 (tt : Nat)] 3)).setCell ⟨G, nn, none⟩ (.int .i64 (ff : Nat))).setCell ⟨H, nn, none⟩ (.int .i64 (tt : Nat))) (fun _ _ => (((((((HQ5.out).alloc (.cells #[.int .i64 (ff : Nat)] 3))).alloc (.cells #[.int .i64 (tt : Nat)] 3))).setG HKK.out nn (.int .i64 (ff : Nat)))).setH HKK.out _ _) ?_
                      clear hK K hbx
                      try simp only [Act.put, List.setIfInBounds_toArray, List.set_cons_zero, List.set_cons_succ]
                      obtain ⟨W7, hW7⟩ : ∃ W, W = ((((wr.drew).alloc (.cells #[.int .i64 (ff : Nat)] 3)).alloc (.cells #[.int .i64 (tt : Nat)] 3)).setCell ⟨G, nn, none⟩ (.int .i64 (ff : Nat))).setCell ⟨H, nn, none⟩ (.int .i64 (tt : Nat)) := ⟨_, rfl⟩
                      have HQ7 : Hid (Q5 X Y R S G H cn nn ff tt W7) := by rw [hW7]; exact (((((((((HQ5.out).alloc (.cells #[.int .i64 (ff : Nat)] 3))).alloc (.cells #[.int .i64 (tt : Nat)] 3))).setG HKK.out nn (.int .i64 (ff : Nat)))).setH HKK.out nn (.int .i64 (tt : Nat))))
                      rw [← hW7]
                      have HW7 := Hid.mk10 hW7
                      clear hW7
                      have cx := HQ7.out.cells.1
                      have fx := HQ7.out.fx
                      refine one_G dOp 8 (by kernel_rfl) (by kernel_rfl) ?_
                      intro K hK
                      simp only [nthO]
                      go_simp
                      refine hK.out _ ((W7).setCell ⟨X, 0, none⟩ (.slice (some ⟨G, 0, none⟩) (nn + 1) cn)) (fun h8 _ => absurd h8 (by decide)) ?_
                      clear hK K cx fx
                      try simp only [Act.put, List.setIfInBounds_toArray, List.set_cons_zero, List.set_cons_succ]
                      obtain ⟨cy, fy⟩ := HQ7.out.fy HKK.out (.slice (some ⟨G, 0, none⟩) (nn + 1) cn)
                      refine one_G dOp 9 (by kernel_rfl) (by kernel_rfl) ?_
                      intro K hK
                      simp only [nthO]
                      go_simp
                      refine hK.out _ (((W7).setCell ⟨X, 0, none⟩ (.slice (some ⟨G, 0, none⟩) (nn + 1) cn)).setCell ⟨Y, 0, none⟩ (.slice (some ⟨H, 0, none⟩) (nn + 1) cn)) (fun h8 _ => absurd h8 (by decide)) ?_
                      clear hK K cy fy
                      try simp only [Act.put, List.setIfInBounds_toArray, List.set_cons_zero, List.set_cons_succ]
                      refine done_G (by kernel_rfl) ?_ _
                      obtain ⟨Wf, hWf⟩ : ∃ W, W = ((W7).setCell ⟨X, 0, none⟩ (.slice (some ⟨G, 0, none⟩) (nn + 1) cn)).setCell ⟨Y, 0, none⟩ (.slice (some ⟨H, 0, none⟩) (nn + 1) cn) := ⟨_, rfl⟩
                      have HL : Hid (KeG w X Y R S G H cn ff tt (L2 ++ [((ff : Int), (tt : Int))]) Wf ∧ FrK w4.heap.size A Wf) := by rw [hWf, HW7.out]; exact KeG.leaf HH.out.1 HH.out.2.1 HKK.out HH.out.2.2.1 HH.out.2.2.2 _ _
                      rw [← hWf]
                      clear hWf HQ7 HW7
                      have cR : Wf.cell? ⟨R, 0, none⟩ = some (.int .i64 (ff : Nat)) := by rw [cell_of_heap HL.out.1.r]; rfl
                      have cS : Wf.cell? ⟨S, 0, none⟩ = some (.int .i64 (tt : Nat)) := by rw [cell_of_heap HL.out.1.s]; rfl
                      have fR := frozen_of_heap HL.out.1.r 0
                      have fS := frozen_of_heap HL.out.1.s 0
                      have nRS := HKK.out.rs
                      have nSR := Ne.symm HKK.out.rs
                      gi_wp2
                      go_roundw
                      case rel => exact ⟨j + 1, by omega, by go_num, by show KeG _ _ _ _ _ _ _ _ _ _ _ _ ∧ _; rw [HX2.out.1, HX2.out.2.1, HX2.out.2.2]; exact HL.out.1.next HL.out.2 HKK.out⟩
                      case measure => simp [RowKit.intOf]; omega
                  · intro K hK
                    simp only [nthO]
                    refine step_box10 rfl 61 (.tmp 59) rfl (.int .i64 (tt : Nat)) rfl (run_boxn10 (wr.drew) (tt : Nat) (wr.heap.size) (by first | rfl | exact kz2 _ _ | exact kz3 _ _ _ _ _)) ?_
                    refine hK.out _ ((wr.drew).alloc (.cells #[.int .i64 (tt : Nat)] 3)) (fun _ _ => (HQ5.out).alloc _) ?_
                    clear hK K
                    try simp only [Act.put, List.setIfInBounds_toArray, List.set_cons_zero, List.set_cons_succ]
                    refine one_G dOp 2 (by kernel_rfl) (by kernel_rfl) ?_
                    intro K hK
                    simp only [nthO]
                    refine step_box10 rfl 61 (.tmp 55) rfl (.int .i64 (ff : Nat)) rfl (run_boxn10 ((wr.drew).alloc (.cells #[.int .i64 (tt : Nat)] 3)) (ff : Nat) (wr.heap.size + 1) (by first | rfl | exact kz2 _ _ | exact kz3 _ _ _ _ _)) ?_
                    refine hK.out _ (((wr.drew).alloc (.cells #[.int .i64 (tt : Nat)] 3)).alloc (.cells #[.int .i64 (ff : Nat)] 3)) (fun _ _ => (((HQ5.out).alloc (.cells #[.int .i64 (tt : Nat)] 3))).alloc _) ?_
                    clear hK K
                    try simp only [Act.put, List.setIfInBounds_toArray, List.set_cons_zero, List.set_cons_succ]
                    refine one_G dOp 3 (by kernel_rfl) (by kernel_rfl) ?_
                    intro K hK
                    simp only [nthO]
                    have hbx : (((wr.drew).alloc (.cells #[.int .i64 (tt : Nat)] 3)).alloc (.cells #[.int .i64 (ff : Nat)] 3)).heap[wr.heap.size + 1]? = some (.cells #[.int .i64 (ff : Nat)] 3 (0, 0)) := (by first | exact kx1 _ _ | exact kx4 _ _ _ | exact kx3 _ _ _ | exact kx2 _ _ _ _ _ _ | exact kx5 _ _ _ hGlt _ _ | exact kx6 _ _ _ hGlt _ _)
                    refine step_room10 ?_ (.tmp 54) (.tmp 56) 61 ?_ 3 i0 Tryz.underlying61 hi0 hz10 G nn cn ?_ (wr.heap.size + 1) (.int .i64 (ff : Nat)) ?_ ?_ rfl HH.out.2.2.2 ?_ ?_
                    · rfl
                    · rfl
                    · rfl
                    · rfl
                    · exact news10 _ _ hbx
                    · exact spare10 (((((HQ5.out).alloc (.cells #[.int .i64 (tt : Nat)] 3))).alloc (.cells #[.int .i64 (ff : Nat)] 3))).g HH.out.2.2.2 (.int .i64 (ff : Nat))
                    refine hK.out _ ((((wr.drew).alloc (.cells #[.int .i64 (tt : Nat)] 3)).alloc (.cells #[.int .i64 (ff : Nat)] 3)).setCell ⟨G, nn, none⟩ (.int .i64 (ff : Nat))) (fun _ _ => (((((HQ5.out).alloc (.cells #[.int .i64 (tt : Nat)] 3))).alloc (.cells #[.int .i64 (ff : Nat)] 3))).setG HKK.out _ _) ?_
                    clear hK K hbx
                    try simp only [Act.put, List.setIfInBounds_toArray, List.set_cons_zero, List.set_cons_succ]
                    refine one_G dOp 7 (by kernel_rfl) (by kernel_rfl) ?_
                    intro K hK
                    simp only [nthO]
                    have hbx : ((((wr.drew).alloc (.cells #[.int .i64 (tt : Nat)] 3)).alloc (.cells #[.int .i64 (ff : Nat)] 3)).setCell ⟨G, nn, none⟩ (.int .i64 (ff : Nat))).heap[wr.heap.size]? = some (.cells #[.int .i64 (tt : Nat)] 3 (0, 0)) := (by first | exact kx1 _ _ | exact kx4 _ _ _ | exact kx3 _ _ _ | exact kx2 _ _ _ _ _ _ | exact kx5 _ _ _ hGlt _ _ | exact kx6 _ _ _ hGlt _ _)
                    refine step_room10 ?_ (.tmp 58) (.tmp 60) 61 ?_ 3 i0 Tryz.underlying61 hi0 hz10 H nn cn ?_ (wr.heap.size) (.int .i64 (tt : Nat)) ?_ ?_ rfl HH.out.2.2.2 ?_ ?_
                    · rfl
                    · rfl
                    · rfl
                    · rfl
                    · exact news10 _ _ hbx
                    · exact spare10 (((((((HQ5.out).alloc (.cells #[.int .i64 (tt : Nat)] 3))).alloc (.cells #[.int .i64 (ff : Nat)] 3))).setG HKK.out nn (.int .i64 (ff : Nat)))).h HH.out.2.2.2 (.int .i64 (tt : Nat))
                    refine hK.out _ (((((wr.drew).alloc (.cells #[.int .i64 (tt : Nat)] 3)).alloc (.cells #[.int .i64 (ff : Nat)] 3)).setCell ⟨G, nn, none⟩ (.int .i64 (ff : Nat))).setCell ⟨H, nn, none⟩ (.int .i64 (tt : Nat))) (fun _ _ => (((((((HQ5.out).alloc (.cells #[.int .i64 (tt : Nat)] 3))).alloc (.cells #[.int .i64 (ff : Nat)] 3))).setG HKK.out nn (.int .i64 (ff : Nat)))).setH HKK.out _ _) ?_
                    clear hK K hbx
                    try simp only [Act.put, List.setIfInBounds_toArray, List.set_cons_zero, List.set_cons_succ]
                    obtain ⟨W7, hW7⟩ : ∃ W, W = ((((wr.drew).alloc (.cells #[.int .i64 (tt : Nat)] 3)).alloc (.cells #[.int .i64 (ff : Nat)] 3)).setCell ⟨G, nn, none⟩ (.int .i64 (ff : Nat))).setCell ⟨H, nn, none⟩ (.int .i64 (tt : Nat)) := ⟨_, rfl⟩
                    have HQ7 : Hid (Q5 X Y R S G H cn nn ff tt W7) := by rw [hW7]; exact (((((((((HQ5.out).alloc (.cells #[.int .i64 (tt : Nat)] 3))).alloc (.cells #[.int .i64 (ff : Nat)] 3))).setG HKK.out nn (.int .i64 (ff : Nat)))).setH HKK.out nn (.int .i64 (tt : Nat))))
                    rw [← hW7]
                    have HW7 := Hid.mk10 hW7
                    clear hW7
                    have cx := HQ7.out.cells.1
                    have fx := HQ7.out.fx
                    refine one_G dOp 8 (by kernel_rfl) (by kernel_rfl) ?_
                    intro K hK
                    simp only [nthO]
                    go_simp
                    refine hK.out _ ((W7).setCell ⟨X, 0, none⟩ (.slice (some ⟨G, 0, none⟩) (nn + 1) cn)) (fun h8 _ => absurd h8 (by decide)) ?_
                    clear hK K cx fx
                    try simp only [Act.put, List.setIfInBounds_toArray, List.set_cons_zero, List.set_cons_succ]
                    obtain ⟨cy, fy⟩ := HQ7.out.fy HKK.out (.slice (some ⟨G, 0, none⟩) (nn + 1) cn)
                    refine one_G dOp 9 (by kernel_rfl) (by kernel_rfl) ?_
                    intro K hK
                    simp only [nthO]
                    go_simp
                    refine hK.out _ (((W7).setCell ⟨X, 0, none⟩ (.slice (some ⟨G, 0, none⟩) (nn + 1) cn)).setCell ⟨Y, 0, none⟩ (.slice (some ⟨H, 0, none⟩) (nn + 1) cn)) (fun h8 _ => absurd h8 (by decide)) ?_
                    clear hK K cy fy
                    try simp only [Act.put, List.setIfInBounds_toArray, List.set_cons_zero, List.set_cons_succ]
                    refine done_G (by kernel_rfl) ?_ _
                    obtain ⟨Wf, hWf⟩ : ∃ W, W = ((W7).setCell ⟨X, 0, none⟩ (.slice (some ⟨G, 0, none⟩) (nn + 1) cn)).setCell ⟨Y, 0, none⟩ (.slice (some ⟨H, 0, none⟩) (nn + 1) cn) := ⟨_, rfl⟩
                    have HL : Hid (KeG w X Y R S G H cn ff tt (L2 ++ [((ff : Int), (tt : Int))]) Wf ∧ FrK w4.heap.size A Wf) := by rw [hWf, HW7.out]; exact KeG.leaf HH.out.1 HH.out.2.1 HKK.out HH.out.2.2.1 HH.out.2.2.2 _ _
                    rw [← hWf]
                    clear hWf HQ7 HW7
                    have cR : Wf.cell? ⟨R, 0, none⟩ = some (.int .i64 (ff : Nat)) := by rw [cell_of_heap HL.out.1.r]; rfl
                    have cS : Wf.cell? ⟨S, 0, none⟩ = some (.int .i64 (tt : Nat)) := by rw [cell_of_heap HL.out.1.s]; rfl
                    have fR := frozen_of_heap HL.out.1.r 0
                    have fS := frozen_of_heap HL.out.1.s 0
                    have nRS := HKK.out.rs
                    have nSR := Ne.symm HKK.out.rs
                    gi_wp2
                    go_roundw
                    case rel => exact ⟨j + 1, by omega, by go_num, by show KeG _ _ _ _ _ _ _ _ _ _ _ _ ∧ _; rw [HX2.out.1, HX2.out.2.1, HX2.out.2.2]; exact HL.out.1.next HL.out.2 HKK.out⟩
                    case measure => simp [RowKit.intOf]; omega
                · have hljI : ¬ (j : Int) < m := by omega
                  have hjm : j = m := by omega
                  have HE2 := HJ.out
                  rw [hjm] at HE2
                  have HE3 := Hid.mk10 HE2
                  clear HE2 HJ hjm
                  gi_wp2
                  exact ke_post2 (_, _) C HE3.out.1 HE3.out.2 HY.out.1 HY.out.2.1 HY.out.2.2
            · have hl := len5_2 hk
              rw [hlen] at hl
              rw [pieceQ_2 hk]
              obtain ⟨V, hV⟩ : ∃ V, valP p.v = V := ⟨_, rfl⟩
              rw [hV]
              have hm : ∀ W : World, (method 359 187 (.agg #[sp, .string p.t, V]) "Len").run Tryz.prog W = .ok (200, .agg #[sp, .string p.t, V]) W := fun _ => by kernel_rfl
              have cLen : Hid (∀ W', Below A.heap.size A W' → Calls Tryz.prog 200 #[.agg #[sp, .string p.t, V]] W' fun r w' => r = .returned (.int .i64 (m : Nat)) ∧ Below A.heap.size A w') := fun W' hW => from_below hW (by have := elen_any V sp p.t W'; rw [← hl] at this; exact this)
              clear hk hl hlen
              gi_wp2
              refine ⟨trivial, (CallsIn.inRound l2 (callsIn_wide.2 (cLen.out A (Below.refl _ _)))).mono ?_⟩
              rintro r wA ⟨rfl, bA⟩
              have HKA : Hid (KeG w X Y R S G H cn f t L wA ∧ FrK w4.heap.size A wA) := ⟨HIN.out.mono bA, FrK.of_below bA⟩
              clear cLen bA hm md bd HCC HIN
              gi_wp2
              gi_loopw [52] (fun i wr => ∃ (j : Nat), j ≤ m ∧ i = .int .i64 j ∧ Hid (KeG w X Y R S G H cn (f + j) (t + j) (L ++ kepU (List.replicate j (.keep [])) f t) wr ∧ FrK w4.heap.size A wr)) (fun i _ => m - (RowKit.intOf i).toNat)
              case atStart => exact ⟨0, Nat.zero_le _, rfl, by show KeG _ _ _ _ _ _ _ _ _ _ (L ++ []) _ ∧ _; rw [List.append_nil]; exact HKA.out⟩
              case round =>
                clear HKA
                obtain ⟨j, hj, rfl, HJ⟩ := hrel
                by_cases hlj : j < m
                · have hljI : (j : Int) < m := by omega
                  obtain ⟨ff, hff⟩ : ∃ x, f + j = x := ⟨_, rfl⟩
                  obtain ⟨tt, htt⟩ : ∃ x, t + j = x := ⟨_, rfl⟩
                  obtain ⟨L2, hL2⟩ : ∃ x, L ++ kepU (List.replicate j (U6.keep [])) f t = x := ⟨_, rfl⟩
                  obtain ⟨nn, hnn⟩ : ∃ x, L2.length = x := ⟨_, rfl⟩
                  have hHJ := HJ.out
                  rw [hff, htt, hL2] at hHJ
                  have hn2 : nn < cn := by
                    have h2 := kepU_count (List.replicate j (U6.keep [])) f t
                    rw [delU_keeps, baseU_keeps] at h2
                    rw [← hnn, ← hL2, List.length_append]
                    omega
                  have HX2 : Hid (f + (j + 1) = ff + 1 ∧ t + (j + 1) = tt + 1 ∧ L ++ kepU (List.replicate (j + 1) (U6.keep [])) f t = L2 ++ [((ff : Int), (tt : Int))]) := ⟨by omega, by omega, by rw [kepU_keep1, ← List.append_assoc, hL2, ← hff, ← htt, Int.natCast_add, Int.natCast_add]⟩
                  have hff2 : ff ≤ 2199023255552 := by omega
                  have htt2 : tt ≤ 2199023255552 := by omega
                  have HH : Hid (KeG w X Y R S G H cn ff tt L2 wr ∧ FrK w4.heap.size A wr ∧ L2.length = nn ∧ nn < cn) := ⟨hHJ.1, hHJ.2, hnn, hn2⟩
                  have HQ5 : Hid (Q5 X Y R S G H cn nn ff tt wr.drew) := (hHJ.1.q5 hnn).drew
                  clear hHJ HJ hff htt hL2 hnn
                  gi_wp2
                  refine region_round_G (S := (fun l W' => l.getD 8 true = false → l.getD 9 true = false → Q5 X Y R S G H cn nn ff tt W')) (by kernel_rfl) (by kernel_rfl) (fun ⟨_, _, h⟩ => h) ?_
                  have hSi : ∀ i : Nat, i ≠ 8 → i ≠ 9 → ∀ (l : Array Bool) (w : World), ((fun l W' => l.getD 8 true = false → l.getD 9 true = false → Q5 X Y R S G H cn nn ff tt W') (l.setIfInBounds i true) w) ↔ ((fun l W' => l.getD 8 true = false → l.getD 9 true = false → Q5 X Y R S G H cn nn ff tt W') l w) := fun i h8 h9 l w => by
                    have e8 := getD_set_ne (listed := l) true h8
                    have e9 := getD_set_ne (listed := l) true h9
                    simp only [e8, e9]
                  refine take_G dOp 0 (.slice (some ⟨G, 0, none⟩) nn cn) (by kernel_rfl) (by kernel_rfl) (by kernel_rfl) (by kernel_rfl) (fun _ _ _ _ _ h => h) (by rfl) (hSi 0 (by decide) (by decide)) (st := [8, 9]) (by kernel_rfl) (by kernel_rfl) (fun _ _ => HQ5.out) (fun w' hy => ?_) ?_
                  · obtain ⟨l, _, h2, h3⟩ := hy
                    have hc := (h3 (h2 8 (by decide)) (h2 9 (by decide))).cells.1
                    clear h2 h3
                    simp only [nthO]
                    go_simp
                  simp only [nthO, Act.put, List.setIfInBounds_toArray, List.set_cons_zero, List.set_cons_succ]
                  refine take_G dOp 1 (.int .i64 (ff : Nat)) (by kernel_rfl) (by kernel_rfl) (by kernel_rfl) (by kernel_rfl) (fun _ _ _ _ _ h => h) (by rfl) (hSi 1 (by decide) (by decide)) (st := [8, 9]) (by kernel_rfl) (by kernel_rfl) (fun _ _ => HQ5.out) (fun w' hy => ?_) ?_
                  · obtain ⟨l, _, h2, h3⟩ := hy
                    have hc := (h3 (h2 8 (by decide)) (h2 9 (by decide))).cells.2.2.1
                    clear h2 h3
                    simp only [nthO]
                    go_simp
                  simp only [nthO, Act.put, List.setIfInBounds_toArray, List.set_cons_zero, List.set_cons_succ]
                  refine take_G dOp 4 (.slice (some ⟨H, 0, none⟩) nn cn) (by kernel_rfl) (by kernel_rfl) (by kernel_rfl) (by kernel_rfl) (fun _ _ _ _ _ h => h) (by rfl) (hSi 4 (by decide) (by decide)) (st := [7, 8, 9]) (by kernel_rfl) (by kernel_rfl) (fun _ _ => HQ5.out) (fun w' hy => ?_) ?_
                  · obtain ⟨l, _, h2, h3⟩ := hy
                    have hc := (h3 (h2 8 (by decide)) (h2 9 (by decide))).cells.2.1
                    clear h2 h3
                    simp only [nthO]
                    go_simp
                  simp only [nthO, Act.put, List.setIfInBounds_toArray, List.set_cons_zero, List.set_cons_succ]
                  refine take_G dOp 5 (.int .i64 (tt : Nat)) (by kernel_rfl) (by kernel_rfl) (by kernel_rfl) (by kernel_rfl) (fun _ _ _ _ _ h => h) (by rfl) (hSi 5 (by decide) (by decide)) (st := [6, 7, 8, 9]) (by kernel_rfl) (by kernel_rfl) (fun _ _ => HQ5.out) (fun w' hy => ?_) ?_
                  · obtain ⟨l, _, h2, h3⟩ := hy
                    have hc := (h3 (h2 8 (by decide)) (h2 9 (by decide))).cells.2.2.2
                    clear h2 h3
                    simp only [nthO]
                    go_simp
                  simp only [nthO, Act.put, List.setIfInBounds_toArray, List.set_cons_zero, List.set_cons_succ]
                  have hGlt : G < wr.heap.size := by obtain ⟨gc, g1, _⟩ := HH.out.1.g; exact (Array.getElem?_eq_some_iff.1 g1).1
                  obtain ⟨i0, z0', hi0, hz0, hz10, hz20, hz30⟩ := infoZi
                  refine two_G dOp 2 6 (by kernel_rfl) (by kernel_rfl) (by kernel_rfl) ?_ ?_
                  · intro K hK
                    simp only [nthO]
                    refine step_box10 rfl 61 (.tmp 55) rfl (.int .i64 (ff : Nat)) rfl (run_boxn10 (wr.drew) (ff : Nat) (wr.heap.size) (by first | rfl | exact kz2 _ _ | exact kz3 _ _ _ _ _)) ?_
                    refine hK.out _ ((wr.drew).alloc (.cells #[.int .i64 (ff : Nat)] 3)) (fun _ _ => (HQ5.out).alloc _) ?_
                    clear hK K
                    try simp only [Act.put, List.setIfInBounds_toArray, List.set_cons_zero, List.set_cons_succ]
                    refine two_G dOp 3 6 (by kernel_rfl) (by kernel_rfl) (by kernel_rfl) ?_ ?_
                    · intro K hK
                      simp only [nthO]
                      have hbx : ((wr.drew).alloc (.cells #[.int .i64 (ff : Nat)] 3)).heap[wr.heap.size]? = some (.cells #[.int .i64 (ff : Nat)] 3 (0, 0)) := (by first | exact kx1 _ _ | exact kx4 _ _ _ | exact kx3 _ _ _ | exact kx2 _ _ _ _ _ _ | exact kx5 _ _ _ hGlt _ _ | exact kx6 _ _ _ hGlt _ _)
                      refine step_room10 ?_ (.tmp 54) (.tmp 56) 61 ?_ 3 i0 Tryz.underlying61 hi0 hz10 G nn cn ?_ (wr.heap.size) (.int .i64 (ff : Nat)) ?_ ?_ rfl HH.out.2.2.2 ?_ ?_
                      · rfl
                      · rfl
                      · rfl
                      · rfl
                      · exact news10 _ _ hbx
                      · exact spare10 (((HQ5.out).alloc (.cells #[.int .i64 (ff : Nat)] 3))).g HH.out.2.2.2 (.int .i64 (ff : Nat))
                      refine hK.out _ (((wr.drew).alloc (.cells #[.int .i64 (ff : Nat)] 3)).setCell ⟨G, nn, none⟩ (.int .i64 (ff : Nat))) (fun _ _ => (((HQ5.out).alloc (.cells #[.int .i64 (ff : Nat)] 3))).setG HKK.out _ _) ?_
                      clear hK K hbx
                      try simp only [Act.put, List.setIfInBounds_toArray, List.set_cons_zero, List.set_cons_succ]
                      refine one_G dOp 6 (by kernel_rfl) (by kernel_rfl) ?_
                      intro K hK
                      simp only [nthO]
                      refine step_box10 rfl 61 (.tmp 59) rfl (.int .i64 (tt : Nat)) rfl (run_boxn10 (((wr.drew).alloc (.cells #[.int .i64 (ff : Nat)] 3)).setCell ⟨G, nn, none⟩ (.int .i64 (ff : Nat))) (tt : Nat) (wr.heap.size + 1) (by first | rfl | exact kz2 _ _ | exact kz3 _ _ _ _ _)) ?_
                      refine hK.out _ ((((wr.drew).alloc (.cells #[.int .i64 (ff : Nat)] 3)).setCell ⟨G, nn, none⟩ (.int .i64 (ff : Nat))).alloc (.cells #[.int .i64 (tt : Nat)] 3)) (fun _ _ => (((((HQ5.out).alloc (.cells #[.int .i64 (ff : Nat)] 3))).setG HKK.out nn (.int .i64 (ff : Nat)))).alloc _) ?_
                      clear hK K
                      try simp only [Act.put, List.setIfInBounds_toArray, List.set_cons_zero, List.set_cons_succ]
                      refine one_G dOp 7 (by kernel_rfl) (by kernel_rfl) ?_
                      intro K hK
                      simp only [nthO]
                      have hbx : ((((wr.drew).alloc (.cells #[.int .i64 (ff : Nat)] 3)).setCell ⟨G, nn, none⟩ (.int .i64 (ff : Nat))).alloc (.cells #[.int .i64 (tt : Nat)] 3)).heap[wr.heap.size + 1]? = some (.cells #[.int .i64 (tt : Nat)] 3 (0, 0)) := (by first | exact kx1 _ _ | exact kx4 _ _ _ | exact kx3 _ _ _ | exact kx2 _ _ _ _ _ _ | exact kx5 _ _ _ hGlt _ _ | exact kx6 _ _ _ hGlt _ _)
                      refine step_room10 ?_ (.tmp 58) (.tmp 60) 61 ?_ 3 i0 Tryz.underlying61 hi0 hz10 H nn cn ?_ (wr.heap.size + 1) (.int .i64 (tt : Nat)) ?_ ?_ rfl HH.out.2.2.2 ?_ ?_
                      · rfl
                      · rfl
                      · rfl
                      · rfl
                      · exact news10 _ _ hbx
                      · exact spare10 (((((((HQ5.out).alloc (.cells #[.int .i64 (ff : Nat)] 3))).setG HKK.out nn (.int .i64 (ff : Nat)))).alloc (.cells #[.int .i64 (tt : Nat)] 3))).h HH.out.2.2.2 (.int .i64 (tt : Nat))
                      refine hK.out _ (((((wr.drew).alloc (.cells #[.int .i64 (ff : Nat)] 3)).setCell ⟨G, nn, none⟩ (.int .i64 (ff : Nat))).alloc (.cells #[.int .i64 (tt : Nat)] 3)).setCell ⟨H, nn, none⟩ (.int .i64 (tt : Nat))) (fun _ _ => (((((((HQ5.out).alloc (.cells #[.int .i64 (ff : Nat)] 3))).setG HKK.out nn (.int .i64 (ff : Nat)))).alloc (.cells #[.int .i64 (tt : Nat)] 3))).setH HKK.out _ _) ?_
                      clear hK K hbx
                      try simp only [Act.put, List.setIfInBounds_toArray, List.set_cons_zero, List.set_cons_succ]
                      obtain ⟨W7, hW7⟩ : ∃ W, W = ((((wr.drew).alloc (.cells #[.int .i64 (ff : Nat)] 3)).setCell ⟨G, nn, none⟩ (.int .i64 (ff : Nat))).alloc (.cells #[.int .i64 (tt : Nat)] 3)).setCell ⟨H, nn, none⟩ (.int .i64 (tt : Nat)) := ⟨_, rfl⟩
                      have HQ7 : Hid (Q5 X Y R S G H cn nn ff tt W7) := by rw [hW7]; exact (((((((((HQ5.out).alloc (.cells #[.int .i64 (ff : Nat)] 3))).setG HKK.out nn (.int .i64 (ff : Nat)))).alloc (.cells #[.int .i64 (tt : Nat)] 3))).setH HKK.out nn (.int .i64 (tt : Nat))))
                      rw [← hW7]
                      have HW7 := Hid.mk10 hW7
                      clear hW7
                      have cx := HQ7.out.cells.1
                      have fx := HQ7.out.fx
                      refine one_G dOp 8 (by kernel_rfl) (by kernel_rfl) ?_
                      intro K hK
                      simp only [nthO]
                      go_simp
                      refine hK.out _ ((W7).setCell ⟨X, 0, none⟩ (.slice (some ⟨G, 0, none⟩) (nn + 1) cn)) (fun h8 _ => absurd h8 (by decide)) ?_
                      clear hK K cx fx
                      try simp only [Act.put, List.setIfInBounds_toArray, List.set_cons_zero, List.set_cons_succ]
                      obtain ⟨cy, fy⟩ := HQ7.out.fy HKK.out (.slice (some ⟨G, 0, none⟩) (nn + 1) cn)
                      refine one_G dOp 9 (by kernel_rfl) (by kernel_rfl) ?_
                      intro K hK
                      simp only [nthO]
                      go_simp
                      refine hK.out _ (((W7).setCell ⟨X, 0, none⟩ (.slice (some ⟨G, 0, none⟩) (nn + 1) cn)).setCell ⟨Y, 0, none⟩ (.slice (some ⟨H, 0, none⟩) (nn + 1) cn)) (fun h8 _ => absurd h8 (by decide)) ?_
                      clear hK K cy fy
                      try simp only [Act.put, List.setIfInBounds_toArray, List.set_cons_zero, List.set_cons_succ]
                      refine done_G (by kernel_rfl) ?_ _
                      obtain ⟨Wf, hWf⟩ : ∃ W, W = ((W7).setCell ⟨X, 0, none⟩ (.slice (some ⟨G, 0, none⟩) (nn + 1) cn)).setCell ⟨Y, 0, none⟩ (.slice (some ⟨H, 0, none⟩) (nn + 1) cn) := ⟨_, rfl⟩
                      have HL : Hid (KeG w X Y R S G H cn ff tt (L2 ++ [((ff : Int), (tt : Int))]) Wf ∧ FrK w4.heap.size A Wf) := by rw [hWf, HW7.out]; rw [alloc_set10 _ G nn _ _ (by rw [World.size_alloc]; exact Nat.lt_succ_of_lt hGlt)]; exact KeG.leaf HH.out.1 HH.out.2.1 HKK.out HH.out.2.2.1 HH.out.2.2.2 _ _
                      rw [← hWf]
                      clear hWf HQ7 HW7
                      have cR : Wf.cell? ⟨R, 0, none⟩ = some (.int .i64 (ff : Nat)) := by rw [cell_of_heap HL.out.1.r]; rfl
                      have cS : Wf.cell? ⟨S, 0, none⟩ = some (.int .i64 (tt : Nat)) := by rw [cell_of_heap HL.out.1.s]; rfl
                      have fR := frozen_of_heap HL.out.1.r 0
                      have fS := frozen_of_heap HL.out.1.s 0
                      have nRS := HKK.out.rs
                      have nSR := Ne.symm HKK.out.rs
                      gi_wp2
                      go_roundw
                      case rel => exact ⟨j + 1, by omega, by go_num, by show KeG _ _ _ _ _ _ _ _ _ _ _ _ ∧ _; rw [HX2.out.1, HX2.out.2.1, HX2.out.2.2]; exact HL.out.1.next HL.out.2 HKK.out⟩
                      case measure => simp [RowKit.intOf]; omega
                    · intro K hK
                      simp only [nthO]
                      refine step_box10 rfl 61 (.tmp 59) rfl (.int .i64 (tt : Nat)) rfl (run_boxn10 ((wr.drew).alloc (.cells #[.int .i64 (ff : Nat)] 3)) (tt : Nat) (wr.heap.size + 1) (by first | rfl | exact kz2 _ _ | exact kz3 _ _ _ _ _)) ?_
                      refine hK.out _ (((wr.drew).alloc (.cells #[.int .i64 (ff : Nat)] 3)).alloc (.cells #[.int .i64 (tt : Nat)] 3)) (fun _ _ => (((HQ5.out).alloc (.cells #[.int .i64 (ff : Nat)] 3))).alloc _) ?_
                      clear hK K
                      try simp only [Act.put, List.setIfInBounds_toArray, List.set_cons_zero, List.set_cons_succ]
                      refine one_G dOp 3 (by kernel_rfl) (by kernel_rfl) ?_
                      intro K hK
                      simp only [nthO]
                      have hbx : (((wr.drew).alloc (.cells #[.int .i64 (ff : Nat)] 3)).alloc (.cells #[.int .i64 (tt : Nat)] 3)).heap[wr.heap.size]? = some (.cells #[.int .i64 (ff : Nat)] 3 (0, 0)) := (by first | exact kx1 _ _ | exact kx4 _ _ _ | exact kx3 _ _ _ | exact kx2 _ _ _ _ _ _ | exact kx5 _ _ _ hGlt _ _ | exact kx6 _ _ _ hGlt _ _)
                      refine step_room10 ?_ (.tmp 54) (.tmp 56) 61 ?_ 3 i0 Tryz.underlying61 hi0 hz10 G nn cn ?_ (wr.heap.size) (.int .i64 (ff : Nat)) ?_ ?_ rfl HH.out.2.2.2 ?_ ?_
                      · rfl
                      · rfl
                      · rfl
                      · rfl
                      · exact news10 _ _ hbx
                      · exact spare10 (((((HQ5.out).alloc (.cells #[.int .i64 (ff : Nat)] 3))).alloc (.cells #[.int .i64 (tt : Nat)] 3))).g HH.out.2.2.2 (.int .i64 (ff : Nat))
                      refine hK.out _ ((((wr.drew).alloc (.cells #[.int .i64 (ff : Nat)] 3)).alloc (.cells #[.int .i64 (tt : Nat)] 3)).setCell ⟨G, nn, none⟩ (.int .i64 (ff : Nat))) (fun _ _ => (((((HQ5.out).alloc (.cells #[.int .i64 (ff : Nat)] 3))).alloc (.cells #[.int .i64 (tt : Nat)] 3))).setG HKK.out _ _) ?_
                      clear hK K hbx
                      try simp only [Act.put, List.setIfInBounds_toArray, List.set_cons_zero, List.set_cons_succ]
                      refine one_G dOp 7 (by kernel_rfl) (by kernel_rfl) ?_
                      intro K hK
                      simp only [nthO]
                      have hbx : ((((wr.drew).alloc (.cells #[.int .i64 (ff : Nat)] 3)).alloc (.cells #[.int .i64 (tt : Nat)] 3)).setCell ⟨G, nn, none⟩ (.int .i64 (ff : Nat))).heap[wr.heap.size + 1]? = some (.cells #[.int .i64 (tt : Nat)] 3 (0, 0)) := (by first | exact kx1 _ _ | exact kx4 _ _ _ | exact kx3 _ _ _ | exact kx2 _ _ _ _ _ _ | exact kx5 _ _ _ hGlt _ _ | exact kx6 _ _ _ hGlt _ _)
                      refine step_room10 ?_ (.tmp 58) (.tmp 60) 61 ?_ 3 i0 Tryz.underlying61 hi0 hz10 H nn cn ?_ (wr.heap.size + 1) (.int .i64 (tt : Nat)) ?_ ?_ rfl HH.out.2.2.2 ?_ ?_
                      · rfl
                      · rfl
                      · rfl
                      · rfl
                      · exact news10 _ _ hbx
                      · exact spare10 (((((((HQ5.out).alloc (.cells #[.int .i64 (ff : Nat)] 3))).alloc (.cells #[.int .i64 (tt : Nat)] 3))).setG HKK.out nn (.int .i64 (ff : Nat)))).h HH.out.2.2.2 (.int .i64 (tt : Nat))
                      refine hK.out _ (((((wr.drew).alloc (.cells #[.int .i64 (ff : Nat)] 3)).alloc (.cells #[.int .i64 (tt : Nat)] 3)).setCell ⟨G, nn, none⟩ (.int .i64 (ff : Nat))).setCell ⟨H, nn, none⟩ (.int .i64 (tt : Nat))) (fun _ _ => (((((((HQ5.out).alloc (.cells #[.int .i64 (ff : Nat)] 3))).alloc (.cells #[.int .i64 (tt : Nat)] 3))).setG HKK.out nn (.int .i64 (ff : Nat)))).setH HKK.out _ _) ?_
                      clear hK K hbx
                      try simp only [Act.put, List.setIfInBounds_toArray, List.set_cons_zero, List.set_cons_succ]
                      obtain ⟨W7, hW7⟩ : ∃ W, W = ((((wr.drew).alloc (.cells #[.int .i64 (ff : Nat)] 3)).alloc (.cells #[.int .i64 (tt : Nat)] 3)).setCell ⟨G, nn, none⟩ (.int .i64 (ff : Nat))).setCell ⟨H, nn, none⟩ (.int .i64 (tt : Nat)) := ⟨_, rfl⟩
                      have HQ7 : Hid (Q5 X Y R S G H cn nn ff tt W7) := by rw [hW7]; exact (((((((((HQ5.out).alloc (.cells #[.int .i64 (ff : Nat)] 3))).alloc (.cells #[.int .i64 (tt : Nat)] 3))).setG HKK.out nn (.int .i64 (ff : Nat)))).setH HKK.out nn (.int .i64 (tt : Nat))))
                      rw [← hW7]
                      have HW7 := Hid.mk10 hW7
                      clear hW7
                      have cx := HQ7.out.cells.1
                      have fx := HQ7.out.fx
                      refine one_G dOp 8 (by kernel_rfl) (by kernel_rfl) ?_
                      intro K hK
                      simp only [nthO]
                      go_simp
                      refine hK.out _ ((W7).setCell ⟨X, 0, none⟩ (.slice (some ⟨G, 0, none⟩) (nn + 1) cn)) (fun h8 _ => absurd h8 (by decide)) ?_
                      clear hK K cx fx
                      try simp only [Act.put, List.setIfInBounds_toArray, List.set_cons_zero, List.set_cons_succ]
                      obtain ⟨cy, fy⟩ := HQ7.out.fy HKK.out (.slice (some ⟨G, 0, none⟩) (nn + 1) cn)
                      refine one_G dOp 9 (by kernel_rfl) (by kernel_rfl) ?_
                      intro K hK
                      simp only [nthO]
                      go_simp
                      refine hK.out _ (((W7).setCell ⟨X, 0, none⟩ (.slice (some ⟨G, 0, none⟩) (nn + 1) cn)).setCell ⟨Y, 0, none⟩ (.slice (some ⟨H, 0, none⟩) (nn + 1) cn)) (fun h8 _ => absurd h8 (by decide)) ?_
                      clear hK K cy fy
                      try simp only [Act.put, List.setIfInBounds_toArray, List.set_cons_zero, List.set_cons_succ]
                      refine done_G (by kernel_rfl) ?_ _
                      obtain ⟨Wf, hWf⟩ : ∃ W, W = ((W7).setCell ⟨X, 0, none⟩ (.slice (some ⟨G, 0, none⟩) (nn + 1) cn)).setCell ⟨Y, 0, none⟩ (.slice (some ⟨H, 0, none⟩) (nn + 1) cn) := ⟨_, rfl⟩
                      have HL : Hid (KeG w X Y R S G H cn ff tt (L2 ++ [((ff : Int), (tt : Int))]) Wf ∧ FrK w4.heap.size A Wf) := by rw [hWf, HW7.out]; exact KeG.leaf HH.out.1 HH.out.2.1 HKK.out HH.out.2.2.1 HH.out.2.2.2 _ _
                      rw [← hWf]
                      clear hWf HQ7 HW7
                      have cR : Wf.cell? ⟨R, 0, none⟩ = some (.int .i64 (ff : Nat)) := by rw [cell_of_heap HL.out.1.r]; rfl
                      have cS : Wf.cell? ⟨S, 0, none⟩ = some (.int .i64 (tt : Nat)) := by rw [cell_of_heap HL.out.1.s]; rfl
                      have fR := frozen_of_heap HL.out.1.r 0
                      have fS := frozen_of_heap HL.out.1.s 0
                      have nRS := HKK.out.rs
                      have nSR := Ne.symm HKK.out.rs
                      gi_wp2
                      go_roundw
                      case rel => exact ⟨j + 1, by omega, by go_num, by show KeG _ _ _ _ _ _ _ _ _ _ _ _ ∧ _; rw [HX2.out.1, HX2.out.2.1, HX2.out.2.2]; exact HL.out.1.next HL.out.2 HKK.out⟩
                      case measure => simp [RowKit.intOf]; omega
                  · intro K hK
                    simp only [nthO]
                    refine step_box10 rfl 61 (.tmp 59) rfl (.int .i64 (tt : Nat)) rfl (run_boxn10 (wr.drew) (tt : Nat) (wr.heap.size) (by first | rfl | exact kz2 _ _ | exact kz3 _ _ _ _ _)) ?_
                    refine hK.out _ ((wr.drew).alloc (.cells #[.int .i64 (tt : Nat)] 3)) (fun _ _ => (HQ5.out).alloc _) ?_
                    clear hK K
                    try simp only [Act.put, List.setIfInBounds_toArray, List.set_cons_zero, List.set_cons_succ]
                    refine one_G dOp 2 (by kernel_rfl) (by kernel_rfl) ?_
                    intro K hK
                    simp only [nthO]
                    refine step_box10 rfl 61 (.tmp 55) rfl (.int .i64 (ff : Nat)) rfl (run_boxn10 ((wr.drew).alloc (.cells #[.int .i64 (tt : Nat)] 3)) (ff : Nat) (wr.heap.size + 1) (by first | rfl | exact kz2 _ _ | exact kz3 _ _ _ _ _)) ?_
                    refine hK.out _ (((wr.drew).alloc (.cells #[.int .i64 (tt : Nat)] 3)).alloc (.cells #[.int .i64 (ff : Nat)] 3)) (fun _ _ => (((HQ5.out).alloc (.cells #[.int .i64 (tt : Nat)] 3))).alloc _) ?_
                    clear hK K
                    try simp only [Act.put, List.setIfInBounds_toArray, List.set_cons_zero, List.set_cons_succ]
                    refine one_G dOp 3 (by kernel_rfl) (by kernel_rfl) ?_
                    intro K hK
                    simp only [nthO]
                    have hbx : (((wr.drew).alloc (.cells #[.int .i64 (tt : Nat)] 3)).alloc (.cells #[.int .i64 (ff : Nat)] 3)).heap[wr.heap.size + 1]? = some (.cells #[.int .i64 (ff : Nat)] 3 (0, 0)) := (by first | exact kx1 _ _ | exact kx4 _ _ _ | exact kx3 _ _ _ | exact kx2 _ _ _ _ _ _ | exact kx5 _ _ _ hGlt _ _ | exact kx6 _ _ _ hGlt _ _)
                    refine step_room10 ?_ (.tmp 54) (.tmp 56) 61 ?_ 3 i0 Tryz.underlying61 hi0 hz10 G nn cn ?_ (wr.heap.size + 1) (.int .i64 (ff : Nat)) ?_ ?_ rfl HH.out.2.2.2 ?_ ?_
                    · rfl
                    · rfl
                    · rfl
                    · rfl
                    · exact news10 _ _ hbx
                    · exact spare10 (((((HQ5.out).alloc (.cells #[.int .i64 (tt : Nat)] 3))).alloc (.cells #[.int .i64 (ff : Nat)] 3))).g HH.out.2.2.2 (.int .i64 (ff : Nat))
                    refine hK.out _ ((((wr.drew).alloc (.cells #[.int .i64 (tt : Nat)] 3)).alloc (.cells #[.int .i64 (ff : Nat)] 3)).setCell ⟨G, nn, none⟩ (.int .i64 (ff : Nat))) (fun _ _ => (((((HQ5.out).alloc (.cells #[.int .i64 (tt : Nat)] 3))).alloc (.cells #[.int .i64 (ff : Nat)] 3))).setG HKK.out _ _) ?_
                    clear hK K hbx
                    try simp only [Act.put, List.setIfInBounds_toArray, List.set_cons_zero, List.set_cons_succ]
                    refine one_G dOp 7 (by kernel_rfl) (by kernel_rfl) ?_
                    intro K hK
                    simp only [nthO]
                    have hbx : ((((wr.drew).alloc (.cells #[.int .i64 (tt : Nat)] 3)).alloc (.cells #[.int .i64 (ff : Nat)] 3)).setCell ⟨G, nn, none⟩ (.int .i64 (ff : Nat))).heap[wr.heap.size]? = some (.cells #[.int .i64 (tt : Nat)] 3 (0, 0)) := (by first | exact kx1 _ _ | exact kx4 _ _ _ | exact kx3 _ _ _ | exact kx2 _ _ _ _ _ _ | exact kx5 _ _ _ hGlt _ _ | exact kx6 _ _ _ hGlt _ _)
                    refine step_room10 ?_ (.tmp 58) (.tmp 60) 61 ?_ 3 i0 Tryz.underlying61 hi0 hz10 H nn cn ?_ (wr.heap.size) (.int .i64 (tt : Nat)) ?_ ?_ rfl HH.out.2.2.2 ?_ ?_
                    · rfl
                    · rfl
                    · rfl
                    · rfl
                    · exact news10 _ _ hbx
                    · exact spare10 (((((((HQ5.out).alloc (.cells #[.int .i64 (tt : Nat)] 3))).alloc (.cells #[.int .i64 (ff : Nat)] 3))).setG HKK.out nn (.int .i64 (ff : Nat)))).h HH.out.2.2.2 (.int .i64 (tt : Nat))
                    refine hK.out _ (((((wr.drew).alloc (.cells #[.int .i64 (tt : Nat)] 3)).alloc (.cells #[.int .i64 (ff : Nat)] 3)).setCell ⟨G, nn, none⟩ (.int .i64 (ff : Nat))).setCell ⟨H, nn, none⟩ (.int .i64 (tt : Nat))) (fun _ _ => (((((((HQ5.out).alloc (.cells #[.int .i64 (tt : Nat)] 3))).alloc (.cells #[.int .i64 (ff : Nat)] 3))).setG HKK.out nn (.int .i64 (ff : Nat)))).setH HKK.out _ _) ?_
                    clear hK K hbx
                    try simp only [Act.put, List.setIfInBounds_toArray, List.set_cons_zero, List.set_cons_succ]
                    obtain ⟨W7, hW7⟩ : ∃ W, W = ((((wr.drew).alloc (.cells #[.int .i64 (tt : Nat)] 3)).alloc (.cells #[.int .i64 (ff : Nat)] 3)).setCell ⟨G, nn, none⟩ (.int .i64 (ff : Nat))).setCell ⟨H, nn, none⟩ (.int .i64 (tt : Nat)) := ⟨_, rfl⟩
                    have HQ7 : Hid (Q5 X Y R S G H cn nn ff tt W7) := by rw [hW7]; exact (((((((((HQ5.out).alloc (.cells #[.int .i64 (tt : Nat)] 3))).alloc (.cells #[.int .i64 (ff : Nat)] 3))).setG HKK.out nn (.int .i64 (ff : Nat)))).setH HKK.out nn (.int .i64 (tt : Nat))))
                    rw [← hW7]
                    have HW7 := Hid.mk10 hW7
                    clear hW7
                    have cx := HQ7.out.cells.1
                    have fx := HQ7.out.fx
                    refine one_G dOp 8 (by kernel_rfl) (by kernel_rfl) ?_
                    intro K hK
                    simp only [nthO]
                    go_simp
                    refine hK.out _ ((W7).setCell ⟨X, 0, none⟩ (.slice (some ⟨G, 0, none⟩) (nn + 1) cn)) (fun h8 _ => absurd h8 (by decide)) ?_
                    clear hK K cx fx
                    try simp only [Act.put, List.setIfInBounds_toArray, List.set_cons_zero, List.set_cons_succ]
                    obtain ⟨cy, fy⟩ := HQ7.out.fy HKK.out (.slice (some ⟨G, 0, none⟩) (nn + 1) cn)
                    refine one_G dOp 9 (by kernel_rfl) (by kernel_rfl) ?_
                    intro K hK
                    simp only [nthO]
                    go_simp
                    refine hK.out _ (((W7).setCell ⟨X, 0, none⟩ (.slice (some ⟨G, 0, none⟩) (nn + 1) cn)).setCell ⟨Y, 0, none⟩ (.slice (some ⟨H, 0, none⟩) (nn + 1) cn)) (fun h8 _ => absurd h8 (by decide)) ?_
                    clear hK K cy fy
                    try simp only [Act.put, List.setIfInBounds_toArray, List.set_cons_zero, List.set_cons_succ]
                    refine done_G (by kernel_rfl) ?_ _
                    obtain ⟨Wf, hWf⟩ : ∃ W, W = ((W7).setCell ⟨X, 0, none⟩ (.slice (some ⟨G, 0, none⟩) (nn + 1) cn)).setCell ⟨Y, 0, none⟩ (.slice (some ⟨H, 0, none⟩) (nn + 1) cn) := ⟨_, rfl⟩
                    have HL : Hid (KeG w X Y R S G H cn ff tt (L2 ++ [((ff : Int), (tt : Int))]) Wf ∧ FrK w4.heap.size A Wf) := by rw [hWf, HW7.out]; exact KeG.leaf HH.out.1 HH.out.2.1 HKK.out HH.out.2.2.1 HH.out.2.2.2 _ _
                    rw [← hWf]
                    clear hWf HQ7 HW7
                    have cR : Wf.cell? ⟨R, 0, none⟩ = some (.int .i64 (ff : Nat)) := by rw [cell_of_heap HL.out.1.r]; rfl
                    have cS : Wf.cell? ⟨S, 0, none⟩ = some (.int .i64 (tt : Nat)) := by rw [cell_of_heap HL.out.1.s]; rfl
                    have fR := frozen_of_heap HL.out.1.r 0
                    have fS := frozen_of_heap HL.out.1.s 0
                    have nRS := HKK.out.rs
                    have nSR := Ne.symm HKK.out.rs
                    gi_wp2
                    go_roundw
                    case rel => exact ⟨j + 1, by omega, by go_num, by show KeG _ _ _ _ _ _ _ _ _ _ _ _ ∧ _; rw [HX2.out.1, HX2.out.2.1, HX2.out.2.2]; exact HL.out.1.next HL.out.2 HKK.out⟩
                    case measure => simp [RowKit.intOf]; omega
                · have hljI : ¬ (j : Int) < m := by omega
                  have hjm : j = m := by omega
                  have HE2 := HJ.out
                  rw [hjm] at HE2
                  have HE3 := Hid.mk10 HE2
                  clear HE2 HJ hjm
                  gi_wp2
                  exact ke_post2 (_, _) C HE3.out.1 HE3.out.2 HY.out.1 HY.out.2.1 HY.out.2.2
          · -- gone
            obtain ⟨y1, y2, y3⟩ := sty_del e2 (wel_of gq) hkq
            rw [hf] at y1
            rw [ht] at y2
            rw [hL] at y3
            have HY : Hid (((far10 E F (pre.length + 1) : Nat) : Int) = f + len5 q ∧ put10 E F (pre.length + 1) = t ∧ sty10 E F (pre.length + 1) = L) := ⟨y1, y2, y3⟩
            have hpl : f + len5 q ≤ 2199023255552 := by rw [← y1]; omega
            clear y1 y2 y3 hin g0 g1 hdj r1 r2 o1 o2 hroom hput hfar hcell hrec e1 e2 hf ht hL cR cS hKK gq gp
            rw [pieceQ_4 hkq]
            have a0 := asDel_4
            obtain ⟨LL, hLL⟩ : ∃ x, len5 q = x := ⟨_, rfl⟩
            rw [hLL] at hlp hpl HY hlen
            clear hkq hLL
            rcases kp with hk | hk
            · have hl := len5_1 hk
              rw [hlen] at hl
              rw [pieceQ_1 hk]
              rw [← hl]
              have hm : ∀ W : World, (method 359 183 (.agg #[sp, .string p.t, .int .i64 LL]) "Len").run Tryz.prog W = .ok (198, .agg #[sp, .string p.t, .int .i64 LL]) W := fun _ => by kernel_rfl
              have cLen : Hid (∀ W', Below A.heap.size A W' → Calls Tryz.prog 198 #[.agg #[sp, .string p.t, .int .i64 LL]] W' fun r w' => r = .returned (.int .i64 LL) ∧ Below A.heap.size A w') := fun W' hW => from_below hW (ilen_any sp p.t LL W')
              have hz : IntKind.i64.wrap ((f : Int) + LL) = (f : Int) + LL := by rw [IntKind.wrap_i64]; omega
              clear hk hl hlen
              gi_wp2
              gi_region_with (refine ⟨trivial, (CallsIn.inRound l2 (callsIn_wide.2 (cLen.out _ bd))).mono ?_⟩; rintro r wA ⟨rfl, bA⟩; have mA := HCC.out wA bA)
              all_goals (gi_wp2)
              all_goals exact ke_post (pre := pre) (x := (_, _)) C (HIN.out.mono bA) HKK.out (FrK.of_below bA) (.inl ⟨_, rfl, HY.out.1, HY.out.2.1, HY.out.2.2⟩)
            · have hl := len5_2 hk
              rw [hlen] at hl
              rw [pieceQ_2 hk]
              obtain ⟨V, hV⟩ : ∃ V, valP p.v = V := ⟨_, rfl⟩
              rw [hV]
              have hm : ∀ W : World, (method 359 187 (.agg #[sp, .string p.t, V]) "Len").run Tryz.prog W = .ok (200, .agg #[sp, .string p.t, V]) W := fun _ => by kernel_rfl
              have cLen : Hid (∀ W', Below A.heap.size A W' → Calls Tryz.prog 200 #[.agg #[sp, .string p.t, V]] W' fun r w' => r = .returned (.int .i64 LL) ∧ Below A.heap.size A w') := fun W' hW => from_below hW (by have := elen_any V sp p.t W'; rw [← hl] at this; exact this)
              have hz : IntKind.i64.wrap ((f : Int) + LL) = (f : Int) + LL := by rw [IntKind.wrap_i64]; omega
              clear hk hl hlen
              gi_wp2
              gi_region_with (refine ⟨trivial, (CallsIn.inRound l2 (callsIn_wide.2 (cLen.out _ bd))).mono ?_⟩; rintro r wA ⟨rfl, bA⟩; have mA := HCC.out wA bA)
              all_goals (gi_wp2)
              all_goals exact ke_post (pre := pre) (x := (_, _)) C (HIN.out.mono bA) HKK.out (FrK.of_below bA) (.inl ⟨_, rfl, HY.out.1, HY.out.2.1, HY.out.2.2⟩)
      case done =>
        rintro D C xs W hD hDC hCW hS hke hK
        have hT8 : T ≤ 8388608 := by have := H2.out.t; omega
        have hN8 : N ≤ 4194304 := by have := H2.out.n; omega
        have hdj : ∀ j, j < xs.length → Doc10 (out7 E F j).1 (out7 E F j).2 := fun j hj => out_doc10 H2.out.e H2.out.f hT8 hN8 HX.out.1 HX.out.2.1 (fun i hi => hS.1 i (by omega)) (hS.1 j hj)
        have hend := sty_end H2.out.e H2.out.f hT8 hN8 HX.out.1 hdj hS.2
        obtain ⟨LL, hLL⟩ : ∃ x, sty10 E F xs.length = x := ⟨_, rfl⟩
        rw [hLL] at hke hend
        have cX : W.cell? ⟨X, 0, none⟩ = some (.slice (some ⟨G, 0, none⟩) LL.length cn) := by rw [cell_of_heap hke.x]; rfl
        have cY : W.cell? ⟨Y, 0, none⟩ = some (.slice (some ⟨H, 0, none⟩) LL.length cn) := by rw [cell_of_heap hke.y]; rfl
        obtain ⟨nl, hnl⟩ : ∃ x, LL.length = x := ⟨_, rfl⟩
        have HF := Hid.mk10 (And.intro hke (And.intro hend (And.intro hD (And.intro hK hnl))))
        rw [hnl] at cX cY
        clear hke hend hLL hS hdj hnl hK hD
        gi_wp2
        go_wp2
        go_region
        all_goals (try go_wp2)
        have q := (HF.out.1.mono (Below.refl W.heap.size W).drew).leave (D := D) H4.out.2.2.2.1 H4.out.2.2.2.2 HF.out.2.2.1 (show W.drew.heap[D]? = _ from HF.out.2.2.2.1) rfl (by omega) (.deferred none)
        rw [HF.out.2.2.2.2, HF.out.2.1] at q
        refine kept_leave W.drew D _ _ _ ?_ ?_ ?_ HF.out.2.2.2.1 (R := fun v1 v2 w' => (OwnZ w' w.heap.size v1 ((kepI ((doneL (cellsL E) (units F)).map Prod.snd) 0).map fun x => .int .i64 x.1) ∧ OwnZ w' w.heap.size v2 ((kepI ((doneL (cellsL E) (units F)).map Prod.snd) 0).map fun x => .int .i64 x.2)) ∧ Below w.heap.size w w') ⟨⟨q.1, q.2.1⟩, q.2.2⟩
        · rfl
        · rfl
        · rfl
end Go.Proofs.YtplnojapnaaakaaGreatDoor
